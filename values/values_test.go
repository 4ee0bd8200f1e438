package values_test

import (
	"fmt"
	"slices"
	"testing"

	"strake/api"
	"strake/ir"
	"strake/sample"
	"strake/strict"
	"strake/values"
)

// wantUses asks for the uses, and changes each by so much.
func wantUses(t *testing.T, f api.Func, want []int, by int) {
	t.Helper()
	var seen []int
	values.EachUse(f.Blocks, func(id *int) {
		seen = append(seen, *id)
		*id += by
	})
	if !slices.Equal(seen, want) {
		t.Errorf("the uses are %v, want %v", seen, want)
	}
}

func TestEachUse(t *testing.T) {
	read := func() api.Func {
		return sample.Read(t, "func int bool arrays 1 cells 1",
			"b0:", "v2 = const 5", "v3 = add v0 v2", "store 0 v3 v0", "set 0 v2", "branch v1 b1 b2",
			"b1:", "v4 = phi int b0 v3 b3 v5", "v5 = get 0", "jump b3",
			"b2:", "v6 = phi bool b0 v1", "return v6",
			"b3:", "branch v1 b4 b1",
			"b4:", "trap 2")
	}
	f := read()
	wantUses(t, f, []int{0, 2, 3, 0, 2, 1, 3, 5, 1, 6, 1}, 10)
	wantUses(t, f, []int{10, 12, 13, 10, 12, 11, 13, 15, 11, 16, 11}, -10)
	if !sample.Same(f, read()) {
		t.Errorf("more than the uses is changed: %v", f)
	}
}

// TestEachUseAt: a use in a phi is one at the end of the block that is come from.
func TestEachUseAt(t *testing.T) {
	f := sample.Read(t, "func int bool arrays 1 cells 0",
		"b0:", "v2 = const 5", "store 0 v0 v2", "branch v1 b1 b2",
		"b1:", "v4 = phi int b3 v0 b0 v2", "v6 = phi bool b0 v1 b3 v1", "out v4", "jump b3",
		"b2:", "return v0",
		"b3:", "branch v1 b4 b1",
		"b4:", "trap 2")
	want := [][2]int{{0, 0}, {2, 0}, {1, 0}, {0, 3}, {2, 0}, {1, 0}, {1, 3}, {4, 1}, {0, 2}, {1, 3}}
	var seen [][2]int
	values.EachUseAt(f.Blocks, func(id *int, at int) { seen = append(seen, [2]int{*id, at}) })
	if !slices.Equal(seen, want) {
		t.Errorf("the uses are %v, want %v", seen, want)
	}
}

// wantDefs holds all that is told of values against what layers 1 and 5 tell of them.
func wantDefs(t *testing.T, what string, f api.Func) {
	t.Helper()
	defs := values.Defs(f)
	ids, _ := ir.Ids(f)
	if len(defs) != len(ids) {
		t.Errorf("%s: %d values, want %d", what, len(defs), len(ids))
	}
	for _, id := range ids {
		block, _, _ := strict.DefOf(f, id)
		typ, _ := ir.TypeOf(f, id)
		if want := (values.Def{Block: block, Type: typ}); defs[id] != want {
			t.Errorf("%s: %v is told of %d, want %v", what, defs[id], id, want)
		}
	}
}

func TestDefs(t *testing.T) {
	wantDefs(t, "rich", sample.Rich())
	wantDefs(t, "bare", sample.Bare())
	for seed := range 20 {
		wantDefs(t, fmt.Sprint("seed ", seed), sample.Busy(2+seed, seed))
	}
}

// TestEachUseCounts holds the uses against those that ir counts.
func TestEachUseCounts(t *testing.T) {
	for seed := range 60 {
		f := sample.Busy(2+seed, seed)
		count := map[int]int{}
		values.EachUse(f.Blocks, func(id *int) { count[*id]++ })
		ids, _ := ir.Ids(f)
		all := 0
		for _, id := range ids {
			want, _ := ir.Uses(f, id)
			if count[id] != want {
				t.Errorf("seed %d: %d uses of %d, want %d", seed, count[id], id, want)
			}
			all += min(want, 1)
		}
		if all != len(count) {
			t.Errorf("seed %d: %d values are used, want %d", seed, len(count), all)
		}
	}
}

func TestFirstNew(t *testing.T) {
	gaps := sample.Read(t, "func int arrays 0 cells 0", "b0:", "v70 = const 1", "v3 = const 2", "return v3")
	params := sample.Read(t, "func int bool arrays 0 cells 0", "b0:", "trap 0")
	one := api.Func{Blocks: []api.Block{{Code: []api.Instr{{Op: api.OpConst, Id: 0}}, Term: sample.Trap(0)}}}
	for want, f := range map[int]api.Func{26: sample.Rich(), 0: sample.Bare(), 71: gaps, 2: params, 1: one} {
		if got := values.FirstNew(f); got != want {
			t.Errorf("the first new value is %d, want %d", got, want)
		}
	}
}
