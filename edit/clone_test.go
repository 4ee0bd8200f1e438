package edit_test

import (
	"fmt"
	"math"
	"slices"
	"testing"

	"strake/api"
	"strake/edit"
	"strake/graph"
	"strake/ir"
	"strake/sample"
)

// copied are round's lines with an exit's phi, and with lines more.
func copied(t *testing.T, exit string, more ...string) api.Func {
	t.Helper()
	return sample.Read(t, append([]string{"func int arrays 0 cells 0",
		"b0:", "v1 = const 0", "v2 = const 1", "jump b1",
		"b1:", "v3 = phi int b0 v1 b2 v6", "v4 = phi int b2 v7 b0 v1", "v5 = lt v3 v0", "branch v5 b2 b3",
		"b2:", "v6 = add v3 v2", "v7 = add v4 v3", "out v7", "jump b1",
		"b3:", "v8 = phi int " + exit, "return v8"}, more...)...)
}

func TestClone(t *testing.T) {
	f := round(t)
	wantClone(t, "nothing", f, nil, f, nil, api.OK)
	wantClone(t, "a loop", f, []int{1, 2}, copied(t, "b1 v4 b4 v10",
		"b4:", "v9 = phi int b5 v12", "v10 = phi int b5 v13", "v11 = lt v9 v0", "branch v11 b5 b3",
		"b5:", "v12 = add v9 v2", "v13 = add v10 v9", "out v13", "jump b4"), []int{4, 5}, api.OK)
	wantClone(t, "a loop, the other way round", f, []int{2, 1}, copied(t, "b1 v4 b5 v12",
		"b4:", "v9 = add v11 v2", "v10 = add v12 v11", "out v10", "jump b5",
		"b5:", "v11 = phi int b4 v9", "v12 = phi int b4 v10", "v13 = lt v11 v0", "branch v13 b4 b3"), []int{4, 5}, api.OK)
	wantClone(t, "a head", f, []int{1}, copied(t, "b1 v4 b4 v10",
		"b4:", "v9 = phi int", "v10 = phi int", "v11 = lt v9 v0", "branch v11 b2 b3"), []int{4}, api.OK)
	wantClone(t, "an exit", f, []int{3}, copied(t, "b1 v4", "b4:", "v9 = phi int", "return v9"), []int{4}, api.OK)
	wantClone(t, "all that follows", f, []int{3, 2, 1}, copied(t, "b1 v4",
		"b4:", "v9 = phi int b6 v13", "return v9",
		"b5:", "v10 = add v12 v2", "v11 = add v13 v12", "out v11", "jump b6",
		"b6:", "v12 = phi int b5 v10", "v13 = phi int b5 v11", "v14 = lt v12 v0", "branch v14 b5 b4"), []int{4, 5, 6}, api.OK)
}

// TestCloneComesTo: where a copy goes to a block that is not copied, that block's phis have more from it.
func TestCloneComesTo(t *testing.T) {
	with := func(phi1, phi2 string, more ...string) api.Func {
		return sample.Read(t, append([]string{"func int arrays 0 cells 0",
			"b0:", "v1 = const 0", "v2 = const 1", "jump b1",
			"b1:", "v3 = phi int " + phi1, "v4 = phi int " + phi2, "v5 = lt v3 v0", "branch v5 b2 b3",
			"b2:", "v6 = add v3 v2", "v7 = add v4 v3", "out v7", "jump b1",
			"b3:", "v8 = phi int b1 v4", "return v8"}, more...)...)
	}
	f := round(t)
	wantClone(t, "a latch", f, []int{2}, with("b0 v1 b2 v6 b4 v9", "b2 v7 b0 v1 b4 v10",
		"b4:", "v9 = add v3 v2", "v10 = add v4 v3", "out v10", "jump b1"), []int{4}, api.OK)
	wantClone(t, "block 0", f, []int{0}, with("b0 v1 b2 v6 b4 v9", "b2 v7 b0 v1 b4 v9",
		"b4:", "v9 = const 0", "v10 = const 1", "jump b1"), []int{4}, api.OK)
	wantClone(t, "both, the last one first", f, []int{2, 0}, with("b0 v1 b2 v6 b4 v9 b5 v11", "b2 v7 b0 v1 b4 v10 b5 v11",
		"b4:", "v9 = add v3 v12", "v10 = add v4 v3", "out v10", "jump b1",
		"b5:", "v11 = const 0", "v12 = const 1", "jump b1"), []int{4, 5}, api.OK)
	wantClone(t, "both", f, []int{0, 2}, with("b0 v1 b2 v6 b4 v9 b5 v11", "b2 v7 b0 v1 b4 v9 b5 v12",
		"b4:", "v9 = const 0", "v10 = const 1", "jump b1",
		"b5:", "v11 = add v3 v10", "v12 = add v4 v3", "out v12", "jump b1"), []int{4, 5}, api.OK)
}

// TestCloneTwoWays: a block that goes to another twice comes to its phis once, and so does its copy.
func TestCloneTwoWays(t *testing.T) {
	with := func(phi string, more ...string) api.Func {
		return sample.Flagged(t, append([]string{"b0:", "jump b1", "b1:", "v1 = not v0", "branch v1 b2 b2", "b2:", "v2 = phi bool b1 " + phi, "return v2"}, more...)...)
	}
	wantClone(t, "a value of the block", with("v1"), []int{1}, with("v1 b3 v3", "b3:", "v3 = not v0", "branch v3 b2 b2"), []int{3}, api.OK)
	wantClone(t, "a parameter", with("v0"), []int{1}, with("v0 b3 v0", "b3:", "v3 = not v0", "branch v3 b2 b2"), []int{3}, api.OK)
	wantClone(t, "both blocks", with("v1"), []int{2, 1}, with("v1", "b3:", "v3 = phi bool b4 v4", "return v3", "b4:", "v4 = not v0", "branch v4 b3 b3"), []int{3, 4}, api.OK)
}

// TestCloneOfItself: a block that goes to itself has a copy that goes to itself.
func TestCloneOfItself(t *testing.T) {
	with := func(more ...string) api.Func {
		return sample.Read(t, append([]string{"func bool arrays 0 cells 0", "b0:", "v5 = const 1", "jump b1",
			"b1:", "v2 = phi int b1 v9 b0 v5", "v9 = add v2 v5", "branch v0 b1 b2", "b2:", "return v9"}, more...)...)
	}
	wantClone(t, "itself", with(), []int{1}, with("b3:", "v10 = phi int b3 v11", "v11 = add v10 v5", "branch v0 b3 b2"), []int{3}, api.OK)
	wantClone(t, "and block 0", with(), []int{1, 0}, with(
		"b3:", "v10 = phi int b3 v11 b4 v12", "v11 = add v10 v12", "branch v0 b3 b2", "b4:", "v12 = const 1", "jump b3"), []int{3, 4}, api.OK)
}

// TestClonePhisOrder: a copy's phi has what its block's has in the same order, whatever the order of the copies.
func TestClonePhisOrder(t *testing.T) {
	with := func(more ...string) api.Func {
		return sample.Flagged(t, append([]string{"b0:", "branch v0 b1 b2", "b1:", "branch v0 b3 b4", "b2:", "branch v0 b3 b4", "b3:", "jump b4",
			"b4:", "v1 = phi bool b3 v0 b1 v0 b2 v0", "return v1"}, more...)...)
	}
	for _, blocks := range [][]int{{1, 2, 3, 4}, {3, 2, 1, 4}, {2, 3, 1, 4}} {
		at := map[int]string{4: "b8"}
		for i, b := range blocks {
			at[b] = blockName(5 + i)
		}
		ends := map[int]string{1: "branch v0 " + at[3] + " b8", 2: "branch v0 " + at[3] + " b8", 3: "jump b8"}
		var more []string
		for _, b := range blocks[:3] {
			more = append(more, at[b]+":", ends[b])
		}
		more = append(more, "b8:", "v2 = phi bool "+at[3]+" v0 "+at[1]+" v0 "+at[2]+" v0", "return v2")
		wantClone(t, "phis", with(), blocks, with(more...), []int{5, 6, 7, 8}, api.OK)
	}
}

// TestCloneNumbers: new values begin behind the greatest one, wherever it is made, and if it is a parameter.
func TestCloneNumbers(t *testing.T) {
	with := func(more ...string) api.Func {
		return sample.Flagged(t, append([]string{"b0:", "v70 = const 1", "v3 = const 2", "branch v0 b1 b1", "b1:", "v50 = add v70 v3", "return v50"}, more...)...)
	}
	wantClone(t, "gaps", with(), []int{1}, with("b2:", "v71 = add v70 v3", "return v71"), []int{2}, api.OK)
	wantClone(t, "what makes the greatest one", with(), []int{0}, with("b2:", "v71 = const 1", "v72 = const 2", "branch v0 b1 b1"), []int{2}, api.OK)
	params := func(more ...string) api.Func {
		return sample.Read(t, append([]string{"func int int int arrays 0 cells 0", "b0:", "out v1", "return v2"}, more...)...)
	}
	wantClone(t, "parameters alone", params(), []int{0}, params("b1:", "out v1", "return v2"), []int{1}, api.OK)
	wantClone(t, "bare", sample.Bare(), []int{0}, api.Func{Blocks: []api.Block{{Term: sample.Trap(0)}, {Term: sample.Trap(0)}}}, []int{1}, api.OK)
	traps := api.Func{Blocks: []api.Block{{Code: []api.Instr{{Op: api.OpConst, Id: 0}}, Term: sample.Trap(7)}}}
	twice := api.Func{Blocks: []api.Block{traps.Blocks[0], {Code: []api.Instr{{Op: api.OpConst, Id: 1}}, Term: sample.Trap(7)}}}
	wantClone(t, "value 0 alone", traps, []int{0}, twice, []int{1}, api.OK)
}

// TestCloneErrors: a number that is no block's comes ahead of one that stands twice, and that ahead of the limits.
func TestCloneErrors(t *testing.T) {
	full := sample.Line(api.MaxBlocks)
	for _, f := range []api.Func{sample.Whole(), sample.Bare(), full} {
		last := len(f.Blocks) - 1
		for _, n := range []int{math.MinInt, -2, -1, last + 1, last + 2, 1 << 32, math.MaxInt} {
			for _, blocks := range [][]int{{n}, {n, n}, {0, n}, {n, 0}, {0, 0, n}, {n, last, last}, {last, n, last}} {
				wantClone(t, "no block", f, blocks, api.Func{}, nil, api.ErrNone)
			}
		}
		for _, blocks := range [][]int{{0, 0}, {last, last}, {0, last, last}, {last, 0, last}, slices.Repeat([]int{0}, 1000000)} {
			wantClone(t, "twice", f, blocks, api.Func{}, nil, api.ErrArg)
		}
	}
	wantClone(t, "a full function", full, []int{0}, api.Func{}, nil, api.ErrForm)
}

// wantFits asks whether copies may come: some blocks from the first one on.
func wantFits(t *testing.T, what string, f api.Func, first, n int, fits bool) {
	t.Helper()
	blocks := upFrom(first, n)
	if !fits {
		wantClone(t, what, f, blocks, api.Func{}, nil, api.ErrForm)
		return
	}
	got, copies, e := edit.Clone(f, blocks...)
	if e != api.OK || len(got.Blocks) != len(f.Blocks)+n || !slices.Equal(copies, upFrom(len(f.Blocks), n)) {
		t.Errorf("%s: Clone answers %d blocks, copies %v, error %d", what, len(got.Blocks), copies, e)
	}
}

func TestCloneLimitsOfBlocks(t *testing.T) {
	for _, c := range []struct {
		blocks, n int
		fits      bool
	}{
		{256, 256, true}, {257, 255, true}, {257, 256, false}, {257, 257, false}, {511, 1, true}, {511, 2, false}, {512, 0, true}, {512, 1, false}, {512, 512, false},
	} {
		wantFits(t, fmt.Sprint(c.n, " of ", c.blocks, " blocks"), sample.Line(c.blocks), c.blocks-c.n, c.n, c.fits)
	}
}

func TestCloneLimitsOfSize(t *testing.T) {
	for _, c := range []struct {
		size, first, n int
		fits           bool
	}{
		{2048, 0, 2, true}, {2049, 0, 2, false}, {2048, 0, 1, true}, {2049, 0, 1, false},
		{4094, 1, 1, true}, {4095, 1, 1, true}, {4096, 1, 1, false}, {4096, 0, 0, true}, {4096, 0, 2, false},
	} {
		wantFits(t, fmt.Sprint("size ", c.size), filled(2, c.size, 0), c.first, c.n, c.fits)
	}
	// A phi counts as an instruction does.
	for _, phis := range []int{1365, 1366} {
		f := sample.Line(2)
		f.Blocks[0].Code = []api.Instr{{Op: api.OpConst, Id: 0}}
		for id := range phis {
			f.Blocks[1].Phis = append(f.Blocks[1].Phis, api.Phi{Id: 1 + id, Type: api.Int, From: []int{0}, Vals: []int{0}})
		}
		for range 4096 - 4 - 2*1365 {
			f.Blocks[0].Code = append(f.Blocks[0].Code, api.Instr{Op: api.OpOut, Id: -1, Args: []int{0}})
		}
		wantFits(t, fmt.Sprint(phis, " phis"), f, 1, 1, phis == 1365)
	}
}

func TestCloneLimitsOfIds(t *testing.T) {
	for _, c := range []struct {
		id, first, n int
		fits         bool
	}{
		{api.MaxId - 2, 0, 1, true}, {api.MaxId - 1, 0, 1, false}, {api.MaxId - 1, 1, 1, true}, {api.MaxId - 1, 0, 0, true}, {api.MaxId - 1, 0, 2, false},
	} {
		wantFits(t, fmt.Sprint("value ", c.id), filled(2, 20, c.id), c.first, c.n, c.fits)
	}
	with := func(id int) api.Func {
		f := round(t)
		f.Blocks[3].Phis[0].Id, f.Blocks[3].Term.Val = id, id
		return f
	}
	wantFits(t, "five values, and room for five", with(api.MaxId-6), 1, 2, true)
	wantFits(t, "five values, and room for four", with(api.MaxId-5), 1, 2, false)
	wantFits(t, "three values, and room for three", with(api.MaxId-4), 1, 1, true)
	wantFits(t, "three values, and room for two", with(api.MaxId-3), 1, 1, false)
}

// eachChoice shows see many functions, with some of their blocks.
func eachChoice(see func(what string, f api.Func, blocks []int)) {
	for seed := range 600 {
		f := sample.Busy(2+seed%40, seed)
		see(fmt.Sprint("seed ", seed), f, chosen(f, seed+1))
	}
}

// TestCloneBusy holds many functions against the chapter's words.
func TestCloneBusy(t *testing.T) {
	all := 0
	eachChoice(func(what string, f api.Func, blocks []int) {
		want := plainOf(t, f).clone(blocks).function(t)
		wantClone(t, what, f, blocks, want, upFrom(len(f.Blocks), len(blocks)), api.OK)
		all += len(blocks)
	})
	if all < 2000 {
		t.Errorf("just %d blocks were copied", all)
	}
}

// TestClonePruned: nothing of the function comes to copies, so that it is left when they are gone.
func TestClonePruned(t *testing.T) {
	eachChoice(func(what string, f api.Func, blocks []int) {
		g, _, _ := edit.Clone(f, blocks...)
		if ir.Check(g) != api.OK {
			t.Errorf("%s: what comes is not formed", what)
		}
		if left, e := graph.Prune(g); e != api.OK || !sample.Same(left, f) {
			t.Errorf("%s: %v is left, error %d", what, left, e)
		}
	})
}

// TestCloneOfAll: the copies of all blocks are the function again.
func TestCloneOfAll(t *testing.T) {
	for seed := range 200 {
		f := sample.Busy(2+seed%40, seed)
		n := len(f.Blocks)
		blocks := append([]int{0}, shuffled(upFrom(1, n-1), sample.Numbering(seed))...)
		g, _, e := edit.Clone(f, blocks...)
		if e != api.OK {
			t.Fatalf("seed %d: error %d", seed, e)
		}
		g.Blocks = g.Blocks[n:]
		for b := range g.Blocks {
			lower(g.Blocks[b].Term.To, n)
			for _, p := range g.Blocks[b].Phis {
				lower(p.From, n)
			}
		}
		wantAlike(t, fmt.Sprint("seed ", seed), f, g, true)
	}
}

func lower(blocks []int, by int) {
	for i := range blocks {
		blocks[i] -= by
	}
}
