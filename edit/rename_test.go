package edit_test

import (
	"fmt"
	"slices"
	"testing"

	"strake/api"
	"strake/edit"
	"strake/graph"
	"strake/interp"
	"strake/sample"
	"strake/strict"
)

func TestRename(t *testing.T) {
	wantRename(t, "bare", sample.Bare(), sample.Bare(), api.OK)
	wantRename(t, "a line", sample.Line(api.MaxBlocks), sample.Line(api.MaxBlocks), api.OK)
	// The way to which a branch goes first is done first, and so stands last.
	wantRename(t, "round", round(t), sample.Read(t, "func int arrays 0 cells 0",
		"b0:", "v1 = const 0", "v2 = const 1", "jump b1",
		"b1:", "v3 = phi int b0 v1 b3 v7", "v4 = phi int b0 v1 b3 v8", "v5 = lt v3 v0", "branch v5 b3 b2",
		"b2:", "v6 = phi int b1 v4", "return v6",
		"b3:", "v7 = add v3 v2", "v8 = add v4 v3", "out v8", "jump b1"), api.OK)
	wantRename(t, "all out of order", sample.Read(t, "func bool int arrays 1 cells 1",
		"b0:", "v90 = const 3", "jump b4",
		"b1:", "v9 = phi bool b5 v0 b2 v4", "v2 = phi int b5 v90 b2 v3", "return v2",
		"b2:", "v4 = not v0", "v3 = load 0 v90", "set 0 v3", "jump b1",
		"b3:", "trap 2",
		"b4:", "branch v0 b2 b5",
		"b5:", "store 0 v90 v1", "branch v0 b1 b3"), sample.Read(t, "func bool int arrays 1 cells 1",
		"b0:", "v2 = const 3", "jump b1",
		"b1:", "branch v0 b4 b2",
		"b2:", "store 0 v2 v1", "branch v0 b5 b3",
		"b3:", "trap 2",
		"b4:", "v3 = not v0", "v4 = load 0 v2", "set 0 v4", "jump b5",
		"b5:", "v5 = phi bool b2 v0 b4 v3", "v6 = phi int b2 v2 b4 v4", "return v6"), api.OK)
}

// TestRenameSwaps: a new number may be another value's old one.
func TestRenameSwaps(t *testing.T) {
	with := func(a, b, c string) api.Func {
		return sample.Read(t, "func int arrays 0 cells 0", "b0:",
			a+" = add v0 v0", b+" = sub "+a+" v0", c+" = mul "+b+" "+a, "out "+b, "return "+c)
	}
	for _, f := range []api.Func{with("v3", "v2", "v1"), with("v2", "v3", "v1"), with("v3", "v1", "v2"), with("v1", "v2", "v3"), with("v1048575", "v1", "v1048574")} {
		wantRename(t, "swapped", f, with("v1", "v2", "v3"), api.OK)
	}
}

// TestRenameFrom: a phi's From rise by the new numbers, each with its value; phis stay in their order.
func TestRenameFrom(t *testing.T) {
	with := func(phis ...string) api.Func {
		lines := []string{"func bool arrays 0 cells 0", "b0:", "v1 = const 1", "v2 = const 2", "v3 = const 3", "branch v0 b1 b2",
			"b1:", "branch v0 b3 b4", "b2:", "jump b4", "b3:", "jump b4", "b4:"}
		return sample.Read(t, append(append(lines, phis...), "return v5")...)
	}
	renamed := sample.Read(t, "func bool arrays 0 cells 0", "b0:", "v1 = const 1", "v2 = const 2", "v3 = const 3", "branch v0 b2 b1",
		"b1:", "jump b4", "b2:", "branch v0 b3 b4", "b3:", "jump b4",
		"b4:", "v4 = phi int b1 v2 b2 v1 b3 v3", "v5 = phi int b1 v1 b2 v2 b3 v3", "return v5")
	for _, order := range [][2]string{
		{"b1 v1 b2 v2 b3 v3", "b1 v2 b2 v1 b3 v3"}, {"b3 v3 b2 v2 b1 v1", "b2 v1 b3 v3 b1 v2"}, {"b2 v2 b1 v1 b3 v3", "b3 v3 b1 v2 b2 v1"},
	} {
		wantRename(t, "phis", with("v4 = phi int "+order[0], "v5 = phi int "+order[1]), renamed, api.OK)
		wantRename(t, "phis with other numbers", with("v9 = phi int "+order[0], "v5 = phi int "+order[1]), renamed, api.OK)
		wantAlike(t, "phis the other way round", with("v5 = phi int "+order[1], "v4 = phi int "+order[0]), renamed, false)
	}
}

// TestRenameBusy holds many functions against the chapter's words, and Rename of Rename against Rename (P2).
func TestRenameBusy(t *testing.T) {
	changed := 0
	for seed := range 600 {
		f, what := sample.Busy(2+seed%40, seed), fmt.Sprint("seed ", seed)
		want := plainOf(t, f).rename().function(t)
		wantRename(t, what, f, want, api.OK)
		wantRename(t, what+", again", want, want, api.OK)
		if _, e := strict.Check(want); e != api.OK {
			t.Errorf("%s: what comes is not strict: %d", what, e)
		}
		if !sample.Same(f, want) {
			changed++
		}
	}
	if changed < 400 {
		t.Errorf("just %d functions are other ones", changed)
	}
}

// TestRenameDoes: what comes does what the function did, step by step.
func TestRenameDoes(t *testing.T) {
	ends := map[int]int{}
	for seed := range 400 {
		f := sample.Busy(2+seed%30, seed)
		g, _ := edit.Rename(f)
		order, _ := graph.Order(f)
		for _, in := range []api.Input{{}, {Args: []int{1, 5, -2}, Arrays: [][]int{{1, 2, 3, 4}, {-5, 6, 0, 9}}}, {Args: []int{0, 7, 1}, Arrays: [][]int{{7, 7, 7, 7}, {8, 8, 8, 8}}}} {
			was, is := interp.Run(f, in, 500), interp.Run(g, in, 500)
			ends[was.End]++
			var visits []int
			for _, b := range order {
				visits = append(visits, was.Visits[b])
			}
			was.Visits = visits
			if fmt.Sprint(was) != fmt.Sprint(is) {
				t.Errorf("seed %d: a run does %v, and then %v", seed, was, is)
			}
		}
	}
	for _, end := range []int{api.Returned, api.Trapped, api.NoFuel, api.Wild} {
		if ends[end] < 20 {
			t.Errorf("just %d runs end with %d", ends[end], end)
		}
	}
}

// TestRenameGreat has functions of the greatest size.
func TestRenameGreat(t *testing.T) {
	want := filled(api.MaxBlocks, api.MaxCode, 0)
	wantRename(t, "the greatest Id", filled(api.MaxBlocks, api.MaxCode, api.MaxId-1), want, api.OK)
	back := filled(api.MaxBlocks, api.MaxCode, 5)
	slices.Reverse(back.Blocks[1:])
	for b := range back.Blocks {
		back.Blocks[b].Term = sample.Jump(b - 1)
	}
	back.Blocks[0].Term, back.Blocks[1].Term = sample.Jump(api.MaxBlocks-1), sample.Trap(0)
	wantRename(t, "backwards", back, want, api.OK)
}
