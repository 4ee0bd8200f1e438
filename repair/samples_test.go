package repair_test

import (
	"fmt"
	"slices"
	"testing"

	"strake/api"
	"strake/graph"
	"strake/ir"
	"strake/repair"
	"strake/sample"
	"strake/strict"
)

// rounds has a loop that two cells change in, a cell that is set once, and one that nothing asks for.
func rounds(t *testing.T) api.Func {
	t.Helper()
	return sample.Read(t, "func int arrays 0 cells 4",
		"b0:", "v1 = const 0", "set 0 v1", "set 2 v0", "jump b1",
		"b1:", "v2 = get 0", "v3 = lt v2 v0", "branch v3 b2 b3",
		"b2:", "v4 = get 0", "v5 = const 1", "v6 = add v4 v5", "set 0 v6", "set 1 v4", "set 3 v6", "jump b1",
		"b3:", "v7 = get 1", "v8 = get 2", "v9 = add v7 v8", "return v9")
}

// turns has a loop with phis of both types, two of which change places.
func turns(t *testing.T) api.Func {
	t.Helper()
	return sample.Read(t, "func int bool arrays 0 cells 1",
		"b0:", "v2 = const 1", "v3 = const 2", "set 0 v3", "jump b1",
		"b1:", "v4 = phi int b0 v2 b2 v5", "v5 = phi int b2 v4 b0 v3", "v6 = phi bool b0 v1 b2 v9", "v7 = phi int b0 v0 b2 v10", "v8 = lt v7 v2", "branch v8 b3 b2",
		"b2:", "v9 = not v6", "v10 = sub v7 v2", "out v4", "jump b1",
		"b3:", "v11 = select v6 v4 v5", "v12 = get 0", "v13 = mul v11 v12", "return v13")
}

func wantPlaces(t *testing.T, what string, f api.Func, want [][]int, wantE api.Errno) {
	t.Helper()
	if got, e := repair.Places(f); !slices.EqualFunc(got, want, slices.Equal) || e != wantE {
		t.Errorf("%s: Places answers %v, %d, want %v, %d", what, got, e, want, wantE)
	}
}

func wantBuild(t *testing.T, what string, f, want api.Func, wantE api.Errno) {
	t.Helper()
	if got, e := repair.Build(f); !sample.Same(got, want) || e != wantE {
		t.Errorf("%s: Build answers %v, %d, want %v, %d", what, got, e, want, wantE)
	}
}

func wantLower(t *testing.T, what string, f, want api.Func, wantE api.Errno) {
	t.Helper()
	if got, e := repair.Lower(f); !sample.Same(got, want) || e != wantE {
		t.Errorf("%s: Lower answers %v, %d, want %v, %d", what, got, e, want, wantE)
	}
}

func uses(f api.Func, ops ...int) int {
	n := 0
	for _, b := range f.Blocks {
		for _, in := range b.Code {
			if slices.Contains(ops, in.Op) {
				n++
			}
		}
	}
	return n
}

func phisOf(f api.Func) int {
	n := 0
	for _, b := range f.Blocks {
		n += len(b.Phis)
	}
	return n
}

// wantBlocks asks for the same blocks, each end the same but for values.
func wantBlocks(t *testing.T, what string, f, g api.Func) {
	t.Helper()
	if b, e := strict.Check(g); e != api.OK {
		t.Errorf("%s: what comes is not strict: error %d at %d", what, e, b)
	}
	same := slices.EqualFunc(f.Blocks, g.Blocks, func(a, b api.Block) bool {
		return a.Term.Op == b.Term.Op && a.Term.N == b.Term.N && slices.Equal(a.Term.To, b.Term.To)
	})
	if !same {
		t.Errorf("%s: the blocks are others: %v, %v", what, f.Blocks, g.Blocks)
	}
}

func wantDoes(t *testing.T, what string, f, g api.Func) {
	t.Helper()
	for i, in := range sample.Inputs() {
		if why := sample.Does(f, g, in); why != "" {
			t.Errorf("%s, input %d: %s: %v, %v", what, i, why, f, g)
		}
	}
}

// isBuilt asks for what P8.2 says of what Build makes of f.
func isBuilt(t *testing.T, what string, f, g api.Func) {
	t.Helper()
	wantBlocks(t, what, f, g)
	if g.Cells != 0 || uses(g, api.OpGet, api.OpSet) != 0 {
		t.Errorf("%s: cells are left: %v", what, g)
	}
	more := make([]int, len(f.Blocks))
	for _, blocks := range plainPlaces(f) {
		for _, b := range blocks {
			more[b]++
		}
	}
	for b, block := range g.Blocks {
		was := f.Blocks[b].Phis
		if len(block.Phis) != len(was)+more[b] {
			t.Errorf("%s: block %d has %d phis, of %d, and %d more are needed", what, b, len(block.Phis), len(was), more[b])
			return
		}
		for i, p := range was {
			if is := block.Phis[i]; is.Id != p.Id || is.Type != p.Type || !slices.Equal(is.From, p.From) {
				t.Errorf("%s: phi %v is now %v", what, p, is)
			}
		}
	}
}

// isLowered asks for what P8.3 says of what Lower makes of f.
func isLowered(t *testing.T, what string, f, g api.Func) {
	t.Helper()
	wantBlocks(t, what, f, g)
	if phisOf(g) != 0 || g.Cells != f.Cells+phisOf(f) {
		t.Errorf("%s: %d phis are left, and %d cells, of %d phis and %d cells", what, phisOf(g), g.Cells, phisOf(f), f.Cells)
	}
}

// eachCelled shows see functions that use two cells in seeded ways, on all graphs of up to four blocks that can all be
// come to.
func eachCelled(see func(what string, f api.Func)) {
	for blocks := 1; blocks <= 3; blocks++ {
		sample.EachGraph(blocks, func(what string, f api.Func) {
			for seed := range 60 {
				seeCelled(fmt.Sprint(what, ", seed ", seed), f, sample.Numbering(seed), see)
			}
		})
	}
	next := sample.Numbering(5)
	sample.EachGraph(4, func(what string, f api.Func) { seeCelled(what, f, next, see) })
}

// seeCelled shows a function on a graph, if all its blocks can be come to.
func seeCelled(what string, f api.Func, next func(below int) int, see func(what string, f api.Func)) {
	if g, e := graph.Prune(f); e == api.OK && len(g.Blocks) == len(f.Blocks) {
		g.Cells = 2
		for b := range g.Blocks {
			g.Blocks[b].Phis = nil
			for range next(4) {
				useCell(&g.Blocks[b].Code, next(4), 100*(1+b)+len(g.Blocks[b].Code), 10+b)
			}
		}
		see(what, g)
	}
}

// useCell adds what asks for a cell and tells of it, or sets it.
func useCell(code *[]api.Instr, kind, id, val int) {
	if kind < 2 {
		*code = append(*code, api.Instr{Op: api.OpGet, Id: id, N: kind}, api.Instr{Op: api.OpOut, Id: -1, Args: []int{id}})
		return
	}
	*code = append(*code, api.Instr{Op: api.OpSet, Id: -1, Args: []int{val}, N: kind - 2})
}

func sizeOf(t *testing.T, f api.Func) int {
	t.Helper()
	n, e := ir.Size(f)
	if e != api.OK {
		t.Fatalf("error %d", e)
	}
	return n
}
