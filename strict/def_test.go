package strict_test

import (
	"math"
	"testing"

	"strake/api"
	"strake/sample"
)

// TestDefOf has every kind of value: parameters, what instructions make behind others that make nothing, phis, and values
// of blocks that can't be come to.
func TestDefOf(t *testing.T) {
	f := sample.Flagged(t,
		"b0:", "v7 = flag 1", "v3 = const 5", "out v3", "v9 = not v7", "jump b2",
		"b1:", "v8 = phi bool b0 v9", "v2 = phi int", "v1 = not v8", "return v1",
		"b2:", "v5 = phi int b0 v3 b2 v5", "out v5", "out v5", "v6 = add v5 v5", "branch v9 b2 b3",
		"b3:", "trap 0",
	)
	for id, want := range map[int][2]int{0: {0, -1}, 7: {0, 0}, 3: {0, 1}, 9: {0, 3}, 8: {1, -1}, 2: {1, -1}, 1: {1, 0}, 5: {2, -1}, 6: {2, 2}} {
		wantDef(t, "loose", f, id, want[0], want[1], api.OK)
	}
	for _, id := range []int{math.MinInt, -2, -1, 4, 10, 11, api.MaxId - 1, api.MaxId, math.MaxInt} {
		wantDef(t, "loose", f, id, 0, 0, api.ErrNone)
	}
}

// TestDefOfAll asks for the values of a function with every operation, two parameters, and ids at their ends.
func TestDefOfAll(t *testing.T) {
	f := sample.Rich()
	f.Blocks[2].Code[0].Id, f.Blocks[1].Phis[0].Vals[1] = api.MaxId-1, api.MaxId-1
	wantDef(t, "rich", f, 0, 0, -1, api.OK)
	wantDef(t, "rich", f, 1, 0, -1, api.OK)
	for at, in := range f.Blocks[0].Code {
		if in.Id >= 0 {
			wantDef(t, "rich", f, in.Id, 0, at, api.OK)
		}
	}
	wantDef(t, "rich", f, 23, 1, -1, api.OK)
	wantDef(t, "rich", f, 24, 1, -1, api.OK)
	wantDef(t, "rich", f, api.MaxId-1, 2, 0, api.OK)
	wantDef(t, "rich", f, 25, 0, 0, api.ErrNone)
	wantDef(t, "bare", sample.Bare(), 0, 0, 0, api.ErrNone)
	bare := sample.Bare()
	bare.Blocks[0].Code = []api.Instr{{Op: api.OpConst, Id: 1}, {Op: api.OpFlag, Id: 0}}
	wantDef(t, "without parameters", bare, 0, 0, 1, api.OK)
	wantDef(t, "without parameters", bare, 1, 0, 0, api.OK)
}

// TestDefOfLoose: whether a function is strict does not matter.
func TestDefOfLoose(t *testing.T) {
	sample.Loose(func(what string, f api.Func, _ int, _ api.Errno) {
		wantDef(t, what, f, 1, 0, -1, api.OK)
		wantDef(t, what, f, 2, 0, 0, api.OK)
		wantDef(t, what, f, 24, 1, -1, api.OK)
		wantDef(t, what, f, 25, 2, 0, api.OK)
		wantDef(t, what, f, 26, 0, 0, api.ErrNone)
	})
}
