package repair_test

import (
	"fmt"
	"testing"

	"strake/api"
	"strake/interp"
	"strake/repair"
	"strake/sample"
)

func TestBuild(t *testing.T) {
	want := sample.Read(t, "func int arrays 0 cells 0",
		"b0:", "v12 = const 0", "v1 = const 0", "jump b1",
		"b1:", "v10 = phi int b0 v1 b2 v6", "v11 = phi int b0 v12 b2 v10", "v3 = lt v10 v0", "branch v3 b2 b3",
		"b2:", "v5 = const 1", "v6 = add v10 v5", "jump b1",
		"b3:", "v9 = add v11 v0", "return v9")
	f := rounds(t)
	wantBuild(t, "rounds", f, want, api.OK)
	isBuilt(t, "rounds", f, want)
	for _, n := range []int{-1, 0, 1, 2, 9, 100} {
		in := api.Input{Args: []int{n}}
		if why := sample.Does(f, want, in); why != "" {
			t.Errorf("rounds of %d: %s", n, why)
		}
		if r := interp.Run(want, in, 1000); r.Value != n+max(0, n-1) || r.End != api.Returned {
			t.Errorf("rounds of %d: %v", n, r)
		}
	}
}

// TestBuildZero: a cell is 0 at first; where nothing asks for that, no number is made of it.
func TestBuildZero(t *testing.T) {
	wantBuild(t, "asked for at once", celled(t, "b0:", "v2 = get 0", "return v2"),
		sample.Read(t, "func int bool arrays 0 cells 0", "b0:", "v3 = const 0", "return v3"), api.OK)
	wantBuild(t, "set to itself", celled(t, "b0:", "v2 = get 0", "set 0 v2", "v3 = get 0", "out v3", "trap 1"),
		sample.Read(t, "func int bool arrays 0 cells 0", "b0:", "v4 = const 0", "out v4", "trap 1"), api.OK)
	wantBuild(t, "not used", celled(t, "b0:", "v2 = get 0", "set 0 v2", "trap 1"),
		sample.Read(t, "func int bool arrays 0 cells 0", "b0:", "trap 1"), api.OK)
	wantBuild(t, "set first", celled(t, "b0:", "set 0 v0", "v2 = get 0", "return v2"),
		sample.Read(t, "func int bool arrays 0 cells 0", "b0:", "return v0"), api.OK)
	wantBuild(t, "on one way", celled(t, "b0:", "branch v1 b1 b2", "b1:", "set 0 v0", "jump b2", "b2:", "v2 = get 0", "return v2"),
		sample.Read(t, "func int bool arrays 0 cells 0", "b0:", "v4 = const 0", "branch v1 b1 b2", "b1:", "jump b2", "b2:", "v3 = phi int b0 v4 b1 v0", "return v3"), api.OK)
	wantBuild(t, "no cells", sample.Bare(), sample.Bare(), api.OK)
}

// TestBuildUses: what was asked for is turned wherever it is used: in ends, in phis that were there, in what is set.
func TestBuildUses(t *testing.T) {
	f := sample.Read(t, "func int bool arrays 1 cells 2",
		"b0:", "set 0 v0", "v2 = get 0", "set 1 v2", "v3 = get 1", "store 0 v3 v2", "branch v1 b1 b2",
		"b1:", "v4 = phi int b0 v3 b1 v6", "v5 = phi bool b1 v1 b0 v1", "v6 = get 1", "set 1 v4", "v7 = get 1", "branch v5 b1 b2",
		"b2:", "v8 = phi int b1 v7 b0 v2", "v9 = get 1", "set 1 v8", "v10 = get 1", "v11 = sub v9 v10", "return v9")
	want := sample.Read(t, "func int bool arrays 1 cells 0",
		"b0:", "store 0 v0 v0", "branch v1 b1 b2",
		"b1:", "v4 = phi int b0 v0 b1 v12", "v5 = phi bool b1 v1 b0 v1", "v12 = phi int b0 v0 b1 v4", "branch v5 b1 b2",
		"b2:", "v8 = phi int b1 v4 b0 v0", "v13 = phi int b0 v0 b1 v4", "v11 = sub v13 v8", "return v13")
	wantBuild(t, "uses", f, want, api.OK)
	isBuilt(t, "uses", f, want)
}

// TestBuildSwap: cells that change places in a loop are phis that do.
func TestBuildSwap(t *testing.T) {
	f := sample.Read(t, "func int arrays 0 cells 2",
		"b0:", "v1 = const 1", "set 0 v0", "set 1 v1", "jump b1",
		"b1:", "v2 = get 0", "v3 = get 1", "out v2", "set 0 v3", "set 1 v2", "jump b1")
	want := sample.Read(t, "func int arrays 0 cells 0",
		"b0:", "v1 = const 1", "jump b1",
		"b1:", "v4 = phi int b0 v0 b1 v5", "v5 = phi int b0 v1 b1 v4", "out v4", "jump b1")
	wantBuild(t, "a swap", f, want, api.OK)
	wantDoes(t, "a swap", f, want)
}

// TestBuildTwoWays: a block that goes to another twice comes to its phis once.
func TestBuildTwoWays(t *testing.T) {
	f := celled(t, "b0:", "jump b1", "b1:", "v2 = get 0", "out v2", "set 0 v0", "branch v1 b1 b1")
	want := sample.Read(t, "func int bool arrays 0 cells 0",
		"b0:", "v4 = const 0", "jump b1", "b1:", "v3 = phi int b0 v4 b1 v0", "out v3", "branch v1 b1 b1")
	wantBuild(t, "two ways", f, want, api.OK)
	wantDoes(t, "two ways", f, want)
}

// wantBuilt asks for all that P8.2 says, where what comes is within the limits.
func wantBuilt(t *testing.T, what string, f api.Func) {
	t.Helper()
	g, e := repair.Build(f)
	if e != api.OK {
		t.Errorf("%s: Build answers error %d", what, e)
		return
	}
	isBuilt(t, what, f, g)
	wantDoes(t, what, f, g)
}

// TestBuildMany has some of the functions on all graphs of up to four blocks.
func TestBuildMany(t *testing.T) {
	n := 0
	eachCelled(func(what string, f api.Func) {
		n++
		if n%7 == 0 {
			wantBuilt(t, what, f)
		}
	})
	if n < 10000 {
		t.Errorf("just %d functions", n)
	}
}

func TestBuildBusy(t *testing.T) {
	ends := map[int]int{}
	for seed := range 150 {
		f := sample.Celled(2+seed%40, seed)
		wantBuilt(t, fmt.Sprint("seed ", seed), f)
		for _, in := range sample.Inputs() {
			ends[interp.Run(f, in, 400).End]++
		}
	}
	for _, end := range []int{api.Returned, api.Trapped, api.NoFuel, api.Wild} {
		if ends[end] < 20 {
			t.Errorf("just %d runs end with %d", ends[end], end)
		}
	}
}

// wantFits asks whether what a call makes of a function is within the limits.
func wantFits(t *testing.T, what string, f api.Func, change func(f api.Func) (api.Func, api.Errno), fits bool) api.Func {
	t.Helper()
	g, e := change(f)
	if fits != (e == api.OK) || !fits && (e != api.ErrForm || !sample.Same(g, api.Func{})) {
		t.Errorf("%s: error %d", what, e)
	}
	return g
}

// padded is f, which is changed, with so many instructions more.
func padded(f api.Func, n int) api.Func {
	for range n {
		useCells(&f.Blocks[0], api.Instr{Op: api.OpOut, Id: -1, Args: []int{0}})
	}
	return f
}

// TestBuildLimitsOfSize: phis are more than what asks for cells and sets them.
func TestBuildLimitsOfSize(t *testing.T) {
	const blocks, phis, zero = 61, 64 * 58, 1
	const room = api.MaxCode - blocks - phis - zero
	g := wantFits(t, "just full", padded(ladder(60, api.MaxCells), room), repair.Build, true)
	if n := sizeOf(t, g); n != api.MaxCode {
		t.Errorf("the size is %d", n)
	}
	wantFits(t, "one more", padded(ladder(60, api.MaxCells), room+1), repair.Build, false)
	// Where the cells are set first no number is made for 0.
	set := func(n int) api.Func {
		f := padded(ladder(60, api.MaxCells), n)
		for cell := range f.Cells {
			useCells(&f.Blocks[0], api.Instr{Op: api.OpSet, Id: -1, Args: []int{0}, N: cell})
		}
		return f
	}
	g = wantFits(t, "just full, all set", set(room+1), repair.Build, true)
	if n := sizeOf(t, g); n != api.MaxCode {
		t.Errorf("the size is %d, if all is set", n)
	}
	wantFits(t, "one more, all set", set(room+2), repair.Build, false)
	wantFits(t, "far more", ladder(api.MaxBlocks-1, api.MaxCells), repair.Build, false)
	full := padded(sample.Bare(), api.MaxCode-1)
	full.Params = []int{api.Int}
	wantFits(t, "a full function", full, repair.Build, true)
}

// TestBuildLimitsOfIds: the new values come behind the greatest one.
func TestBuildLimitsOfIds(t *testing.T) {
	with := func(id int, ahead ...string) api.Func {
		f := celled(t, append(append([]string{"b0:"}, ahead...), "branch v1 b1 b2", "b1:", "set 0 v0", "jump b2", "b2:", "v2 = get 0", "v9 = const 4", "return v2")...)
		f.Blocks[2].Code[1].Id = id
		return f
	}
	wantFits(t, "room for a phi and 0", with(api.MaxId-3), repair.Build, true)
	wantFits(t, "room for a phi", with(api.MaxId-2), repair.Build, false)
	wantFits(t, "room for a phi, and no 0", with(api.MaxId-2, "set 0 v0"), repair.Build, true)
	wantFits(t, "no room", with(api.MaxId-1, "set 0 v0"), repair.Build, false)
	none := sample.Whole()
	none.Blocks[2].Code[0].Id = api.MaxId - 1
	none.Blocks[1].Phis[0].Vals[1] = api.MaxId - 1
	wantFits(t, "nothing new", none, repair.Build, true)
}
