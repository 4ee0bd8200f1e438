package graph_test

import (
	"slices"
	"testing"

	"strake/api"
	"strake/graph"
	"strake/ir"
	"strake/sample"
)

// wantErrors asks for an error of all calls, and for zero values beside it.
func wantErrors(t *testing.T, what string, f api.Func, want api.Errno) {
	t.Helper()
	if got, e := graph.Preds(f); len(got) != 0 || e != want {
		t.Errorf("%s: Preds answers %v, %d, want error %d", what, got, e, want)
	}
	if got, e := graph.Reach(f); len(got) != 0 || e != want {
		t.Errorf("%s: Reach answers %v, %d, want error %d", what, got, e, want)
	}
	if got, e := graph.Order(f); len(got) != 0 || e != want {
		t.Errorf("%s: Order answers %v, %d, want error %d", what, got, e, want)
	}
	wantPrune(t, what, f, api.Func{}, want)
	for _, at := range [][2]int{{0, 0}, {1, 1}, {-1, 0}, {0, 9}} {
		wantSplit(t, what, f, at[0], at[1], api.Func{}, want)
	}
}

// TestTellsErrors: each call answers ir.Check's error, ahead of its own.
func TestTellsErrors(t *testing.T) {
	sample.Wrong(func(what string, f api.Func, want api.Errno) { wantErrors(t, what, f, want) })
}

// askAll makes every call, and holds them against each other.
func askAll(t *testing.T, what string, f api.Func) {
	t.Helper()
	defer func() {
		if r := recover(); r != nil {
			t.Errorf("%s: panic: %v", what, r)
		}
	}()
	if e := ir.Check(f); e != api.OK {
		wantErrors(t, what, f, e)
		return
	}
	wantPreds(t, what, f, predsByPairs(f))
	wantReach(t, what, f, reachByRounds(f))
	wantOrder(t, what, f, orderBySteps(f))
	if g, e := graph.Prune(f); e == api.OK {
		wantPrune(t, what+", pruned", g, g, api.OK)
	} else if e != api.ErrUse {
		t.Errorf("%s: Prune answers %d", what, e)
	}
	for from, b := range f.Blocks {
		for k := range b.Term.To {
			if g, e := graph.Split(f, from, k); e != api.OK || ir.Check(g) != api.OK {
				t.Errorf("%s: Split at %d, %d answers %v, %d", what, from, k, g, e)
			}
		}
	}
}

// TestAnyArgument has functions with all that is around a right one, and others (R1).
func TestAnyArgument(t *testing.T) {
	right := 0
	sample.Turns(sample.Rich(), func(what string, f api.Func) {
		if ir.Check(f) == api.OK {
			right++
		}
		askAll(t, what, f)
	})
	if right < 100 {
		t.Errorf("just %d functions were right", right)
	}
}

// TestHandedInStays: no call changes what it is given, spare room of its lists included (R4).
func TestHandedInStays(t *testing.T) {
	for what, f := range map[string]api.Func{"rich": sample.Rich(), "cross": cross(t), "nothing": {}} {
		sample.Stays(t, what, f, func(what string, f api.Func) { askAll(t, what, f) })
	}
}

// changed are the answers of the calls that change a function: with an edge of two, an edge alone, and some blocks gone.
func changed(t *testing.T, f api.Func) []api.Func {
	t.Helper()
	pruned, e1 := graph.Prune(f)
	alone, e2 := graph.Split(f, 0, 1)
	oneOfTwo, e3 := graph.Split(f, 2, 0)
	if e1 != api.OK || e2 != api.OK || e3 != api.OK {
		t.Fatalf("errors %d, %d, %d", e1, e2, e3)
	}
	return []api.Func{pruned, alone, oneOfTwo}
}

// TestFunctionsAreNewMemory: no two lists that Prune and Split answer share memory, nor with what was handed in (R4).
func TestFunctionsAreNewMemory(t *testing.T) {
	for _, f := range []api.Func{cross(t), sample.Roomy(cross(t))} {
		all := append(changed(t, f), changed(t, f)...)
		if !sample.Apart(append(all, f)...) {
			t.Error("answers share memory")
		}
	}
	shared := cross(t)
	list := shared.Blocks[2].Term.To
	shared.Blocks[4].Term.To, shared.Blocks[0].Term.To = list, list
	if !sample.Apart(changed(t, shared)...) {
		t.Error("answers share memory, where what was handed in does")
	}
}

// TestListsAreNewMemory: writing over an answer changes neither the function nor another answer (R4, R5).
func TestListsAreNewMemory(t *testing.T) {
	f := sample.Roomy(cross(t))
	before := sample.Memory(f)
	first, _ := graph.Preds(f)
	second, _ := graph.Preds(f)
	order, _ := graph.Order(f)
	another, _ := graph.Order(f)
	if !sample.AloneLists(slices.Concat(first, second, [][]int{order, another})) || sample.Memory(f) != before {
		t.Error("lists share memory")
	}
	clear(first)
	if len(second[3]) == 0 {
		t.Error("the lists of Preds share memory")
	}
	reach, _ := graph.Reach(f)
	other, _ := graph.Reach(f)
	want := slices.Clone(other)
	clear(reach[:cap(reach)])
	if !slices.Equal(other, want) {
		t.Error("the lists of Reach share memory")
	}
	askAll(t, "cross, behind it", f)
}

// TestNothingIsKept: what was asked ahead does not matter, nor what becomes of a function behind a call (R5).
func TestNothingIsKept(t *testing.T) {
	f := cross(t)
	for range 3 {
		askAll(t, "cross", f)
		wantErrors(t, "nothing", api.Func{}, api.ErrForm)
		askAll(t, "bare", sample.Bare())
		f.Blocks[0].Term.To[0] = 1
		askAll(t, "cross, changed in place", f)
		f.Blocks[0].Term.To[0] = 5
		sample.Fill(12345, changed(t, f)...)
	}
	if !sample.Same(f, cross(t)) {
		t.Error("the function is another one")
	}
}
