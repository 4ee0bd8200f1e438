package repair_test

import (
	"fmt"
	"testing"

	"strake/api"
	"strake/repair"
	"strake/sample"
)

// wantBack asks for a function that does the same to come of one call, and then another one; not: cells were too many.
func wantBack(t *testing.T, what string, f api.Func, there, back func(f api.Func) (api.Func, api.Errno)) bool {
	t.Helper()
	g, e := there(f)
	if e == api.OK {
		g, e = back(g)
	}
	if e == api.ErrCell {
		return false
	}
	if e != api.OK {
		t.Errorf("%s: error %d", what, e)
		return false
	}
	wantBlocks(t, what, f, g)
	wantDoes(t, what, f, g)
	return true
}

// TestThereAndBack: what comes of both calls does what the function did (P2).
func TestThereAndBack(t *testing.T) {
	lowered, built := 0, 0
	for seed := range 150 {
		f, what := sample.Celled(2+seed%20, seed), fmt.Sprint("seed ", seed)
		if wantBack(t, what+", first lowered", f, repair.Lower, repair.Build) {
			lowered++
		}
		if wantBack(t, what+", first built", f, repair.Build, repair.Lower) {
			built++
		}
	}
	if lowered < 50 || built < 50 {
		t.Errorf("just %d functions could be lowered first, and %d built first", lowered, built)
	}
	for _, f := range []api.Func{rounds(t), turns(t), sample.Whole(), sample.Bare()} {
		wantBack(t, "a sample, first lowered", f, repair.Lower, repair.Build)
		wantBack(t, "a sample, first built", f, repair.Build, repair.Lower)
	}
}

// TestBackAgain: numbers' phis that are needed come back where they were.
func TestBackAgain(t *testing.T) {
	f := sample.Read(t, "func int arrays 0 cells 0",
		"b0:", "v1 = const 0", "v2 = const 1", "jump b1",
		"b1:", "v3 = phi int b0 v1 b2 v6", "v4 = phi int b2 v7 b0 v1", "v5 = lt v3 v0", "branch v5 b2 b3",
		"b2:", "v6 = add v3 v2", "v7 = add v4 v3", "out v7", "jump b1",
		"b3:", "return v4")
	low, _ := repair.Lower(f)
	wantPlaces(t, "round", low, [][]int{{1}, {1}}, api.OK)
	wantBuild(t, "round", low, sample.Read(t, "func int arrays 0 cells 0",
		"b0:", "v1 = const 0", "v2 = const 1", "jump b1",
		"b1:", "v8 = phi int b0 v1 b2 v6", "v9 = phi int b0 v1 b2 v7", "v5 = lt v8 v0", "branch v5 b2 b3",
		"b2:", "v6 = add v8 v2", "v7 = add v9 v8", "out v7", "jump b1",
		"b3:", "return v9"), api.OK)
}
