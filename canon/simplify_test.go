package canon_test

import (
	"fmt"
	"testing"

	"strake/api"
	"strake/edit"
	"strake/sample"
)

// numbered reads a function of a flag, v0, and two numbers, v1 and v2.
func numbered(t *testing.T, lines ...string) api.Func {
	t.Helper()
	return sample.Read(t, append([]string{"func bool int int arrays 0 cells 0"}, lines...)...)
}

// wantMade asks for a function, but for the numbers of new blocks and values, and the order in which phis have something.
func wantMade(t *testing.T, what string, f, want api.Func) {
	t.Helper()
	if got := wantSimplified(t, what, f, sample.Inputs()); !edit.Alike(got, want) {
		t.Errorf("%s: Simplify answers %v, want %v", what, got, want)
	}
}

// TestSimplifyEntries: one block comes ahead of a head, and has phis just where there are several values.
func TestSimplifyEntries(t *testing.T) {
	wantMade(t, "two",
		numbered(t, "b0:", "branch v0 b1 b2", "b1:", "jump b3", "b2:", "v7 = not v0", "jump b3",
			"b3:", "v3 = phi int b1 v1 b3 v5 b2 v2", "v4 = phi int b2 v1 b1 v1 b3 v3", "v6 = phi bool b1 v0 b2 v7 b3 v0", "v5 = add v3 v4", "branch v6 b3 b4",
			"b4:", "return v4"),
		numbered(t, "b0:", "branch v0 b1 b2", "b1:", "jump b5", "b2:", "v7 = not v0", "jump b5",
			"b3:", "v3 = phi int b3 v5 b5 v8", "v4 = phi int b3 v3 b5 v1", "v6 = phi bool b3 v0 b5 v9", "v5 = add v3 v4", "branch v6 b3 b4",
			"b4:", "return v4",
			"b5:", "v8 = phi int b1 v1 b2 v2", "v9 = phi bool b1 v0 b2 v7", "jump b3"))
	wantMade(t, "one that branches",
		numbered(t, "b0:", "branch v0 b1 b2", "b1:", "v3 = phi int b1 v3 b0 v1", "jump b1", "b2:", "return v1"),
		numbered(t, "b0:", "branch v0 b3 b2", "b1:", "v3 = phi int b1 v3 b3 v1", "jump b1", "b2:", "return v1", "b3:", "jump b1"))
	wantMade(t, "one that branches there twice",
		numbered(t, "b0:", "branch v0 b1 b1", "b1:", "v3 = phi int b0 v1 b1 v2", "out v3", "branch v0 b1 b1"),
		numbered(t, "b0:", "branch v0 b2 b2", "b1:", "v3 = phi int b1 v2 b2 v1", "out v3", "branch v0 b1 b1", "b2:", "jump b1"))
}

// TestSimplifyLatches: one block comes behind all that went back.
func TestSimplifyLatches(t *testing.T) {
	wantMade(t, "two",
		numbered(t, "b0:", "jump b1",
			"b1:", "v3 = phi int b0 v1 b1 v5 b2 v6", "v4 = phi int b0 v1 b2 v5 b1 v5", "v7 = phi int b1 v7 b2 v2 b0 v2", "v5 = add v3 v4", "branch v0 b1 b2",
			"b2:", "v6 = add v5 v7", "v8 = lt v6 v2", "branch v8 b1 b3",
			"b3:", "return v3"),
		numbered(t, "b0:", "jump b1",
			"b1:", "v3 = phi int b0 v1 b4 v9", "v4 = phi int b0 v1 b4 v5", "v7 = phi int b0 v2 b4 v10", "v5 = add v3 v4", "branch v0 b4 b2",
			"b2:", "v6 = add v5 v7", "v8 = lt v6 v2", "branch v8 b4 b3",
			"b3:", "return v3",
			"b4:", "v9 = phi int b1 v5 b2 v6", "v10 = phi int b1 v7 b2 v2", "jump b1"))
	wantMade(t, "and entries",
		numbered(t, "b0:", "branch v0 b1 b2", "b1:", "jump b2",
			"b2:", "v3 = phi int b0 v1 b1 v2 b2 v3 b3 v1", "out v3", "branch v0 b2 b3", "b3:", "jump b2"),
		numbered(t, "b0:", "branch v0 b1 b4", "b1:", "jump b4",
			"b2:", "v3 = phi int b4 v4 b5 v5", "out v3", "branch v0 b5 b3", "b3:", "jump b5",
			"b4:", "v4 = phi int b0 v1 b1 v2", "jump b2", "b5:", "v5 = phi int b2 v3 b3 v1", "jump b2"))
}

// TestSimplifyExits: what leaves a loop goes through a block of its own, unless all that goes there does.
func TestSimplifyExits(t *testing.T) {
	wantMade(t, "one that is come to otherwise",
		numbered(t, "b0:", "branch v0 b1 b3", "b1:", "jump b2", "b2:", "v3 = not v0", "branch v3 b2 b3", "b3:", "v4 = phi bool b0 v0 b2 v3", "return v4"),
		numbered(t, "b0:", "branch v0 b1 b3", "b1:", "jump b2", "b2:", "v3 = not v0", "branch v3 b2 b4", "b3:", "v4 = phi bool b0 v0 b4 v3", "return v4", "b4:", "jump b3"))
	wantMade(t, "one that two go to from within",
		numbered(t, "b0:", "branch v0 b1 b4", "b1:", "jump b2", "b2:", "branch v0 b3 b4", "b3:", "branch v0 b2 b4", "b4:", "v3 = phi int b0 v1 b2 v2 b3 v1", "return v3"),
		numbered(t, "b0:", "branch v0 b1 b4", "b1:", "jump b2", "b2:", "branch v0 b3 b5", "b3:", "branch v0 b2 b5", "b4:", "v3 = phi int b0 v1 b5 v4", "return v3",
			"b5:", "v4 = phi int b2 v2 b3 v1", "jump b4"))
	plain := numbered(t, "b0:", "jump b1", "b1:", "branch v0 b2 b3", "b2:", "branch v0 b1 b3", "b3:", "v3 = phi int b1 v1 b2 v2", "return v3")
	wantMade(t, "one that just two from within go to", plain, plain)
	wantMade(t, "of a loop within, and of one around",
		numbered(t, "b0:", "jump b1", "b1:", "jump b2", "b2:", "branch v0 b3 b4", "b3:", "branch v0 b2 b5", "b4:", "branch v0 b1 b5", "b5:", "v3 = phi int b3 v1 b4 v2", "return v3"),
		numbered(t, "b0:", "jump b1", "b1:", "jump b2", "b2:", "branch v0 b3 b4", "b3:", "branch v0 b2 b6", "b4:", "branch v0 b1 b7", "b5:", "v3 = phi int b6 v1 b7 v2", "return v3",
			"b6:", "jump b5", "b7:", "jump b5"))
	wantMade(t, "of two loops, one behind the other",
		numbered(t, "b0:", "jump b1", "b1:", "branch v0 b1 b2", "b2:", "v3 = phi int b1 v1 b2 v4", "v4 = add v3 v2", "branch v0 b2 b3", "b3:", "return v3"),
		numbered(t, "b0:", "jump b1", "b1:", "branch v0 b1 b4", "b2:", "v3 = phi int b4 v1 b2 v4", "v4 = add v3 v2", "branch v0 b2 b3", "b3:", "return v3", "b4:", "jump b2"))
}

// TestSimplifyHeadsAsExits: where loops go on at a head, what leaves them, what else comes, and what goes back come apart.
func TestSimplifyHeadsAsExits(t *testing.T) {
	wantMade(t, "the head of the loop around",
		numbered(t, "b0:", "jump b1", "b1:", "v3 = phi int b0 v1 b2 v4", "jump b2", "b2:", "v4 = add v3 v1", "branch v0 b2 b1"),
		numbered(t, "b0:", "jump b1", "b1:", "v3 = phi int b0 v1 b3 v4", "jump b2", "b2:", "v4 = add v3 v1", "branch v0 b2 b3", "b3:", "jump b1"))
	wantMade(t, "the head of the loop around, to which another one goes back",
		numbered(t, "b0:", "jump b1", "b1:", "v3 = phi int b0 v1 b2 v4 b3 v2", "jump b2", "b2:", "v4 = add v3 v1", "v5 = lt v4 v2", "branch v5 b1 b3", "b3:", "branch v0 b2 b1"),
		numbered(t, "b0:", "jump b1", "b1:", "v3 = phi int b0 v1 b4 v6", "jump b2", "b2:", "v4 = add v3 v1", "v5 = lt v4 v2", "branch v5 b4 b3", "b3:", "branch v0 b2 b4",
			"b4:", "v6 = phi int b2 v4 b3 v2", "jump b1"))
	wantMade(t, "the head of the loop around, to which a block of that one goes back",
		numbered(t, "b0:", "jump b1", "b1:", "v3 = phi int b0 v1 b3 v4 b4 v2", "jump b2", "b2:", "v4 = add v3 v1", "v5 = lt v4 v2", "branch v5 b3 b4", "b3:", "branch v0 b2 b1", "b4:", "jump b1"),
		numbered(t, "b0:", "jump b1", "b1:", "v3 = phi int b0 v1 b6 v6", "jump b2", "b2:", "v4 = add v3 v1", "v5 = lt v4 v2", "branch v5 b3 b4", "b3:", "branch v0 b2 b5", "b4:", "jump b6",
			"b5:", "jump b6", "b6:", "v6 = phi int b4 v2 b5 v4", "jump b1"))
	wantMade(t, "that of one behind two others",
		numbered(t, "b0:", "branch v0 b1 b2", "b1:", "branch v0 b1 b3", "b2:", "branch v0 b2 b3",
			"b3:", "v3 = phi int b1 v1 b2 v2 b3 v3", "branch v0 b3 b4", "b4:", "return v3"),
		numbered(t, "b0:", "branch v0 b5 b6", "b1:", "branch v0 b1 b7", "b2:", "branch v0 b2 b8",
			"b3:", "v3 = phi int b9 v4 b3 v3", "branch v0 b3 b4", "b4:", "return v3",
			"b5:", "jump b1", "b6:", "jump b2", "b7:", "jump b9", "b8:", "jump b9", "b9:", "v4 = phi int b7 v1 b8 v2", "jump b3"))
}

// TestSimplifyWithin: what stays in the loop around has no need of a block of its own.
func TestSimplifyWithin(t *testing.T) {
	wantMade(t, "a loop on one of two ways",
		numbered(t, "b0:", "jump b1", "b1:", "branch v0 b2 b3", "b2:", "branch v0 b2 b3", "b3:", "v3 = phi int b1 v1 b2 v2", "out v3", "branch v0 b1 b4", "b4:", "return v3"),
		numbered(t, "b0:", "jump b1", "b1:", "branch v0 b6 b3", "b2:", "branch v0 b2 b5", "b3:", "v3 = phi int b1 v1 b5 v2", "out v3", "branch v0 b1 b4", "b4:", "return v3",
			"b5:", "jump b3", "b6:", "jump b2"))
	odd := numbered(t, "b0:", "branch v0 b1 b2", "b1:", "v3 = phi int b0 v1 b2 v4", "out v3", "jump b2", "b2:", "v4 = phi int b1 v3 b0 v2", "out v4", "jump b1")
	wantMade(t, "no loop of one head", odd, odd)
	wantMade(t, "no loop", sample.Line(9), sample.Line(9))
	wantMade(t, "bare", sample.Bare(), sample.Bare())
}

// TestSimplifySmall has all graphs of up to four blocks.
func TestSimplifySmall(t *testing.T) {
	n := 0
	sample.EachSmall(func(what string, f api.Func) {
		wantSimplified(t, what, f, nil)
		if n++; n%5 == 0 {
			wantSimplified(t, what, sample.Walking(f), sample.Walks())
		}
	})
	if n < 5000 {
		t.Errorf("just %d graphs", n)
	}
}

// TestSimplifySeeded has greater graphs, and functions with phis and code.
func TestSimplifySeeded(t *testing.T) {
	odd, added, phis := 0, 0, 0
	for seed := range 300 {
		f := sample.Walking(sample.Reached(t, 4+seed%40, seed))
		g := wantSimplified(t, fmt.Sprint("seed ", seed), f, sample.Walks())
		if firstOdd(t, f) != 0 {
			odd++
		}
		added += len(g.Blocks) - len(f.Blocks)
		for _, b := range g.Blocks[len(f.Blocks):] {
			phis += len(b.Phis)
		}
	}
	if odd < 150 || added < 400 || phis < 300 {
		t.Errorf("just %d functions are not plain, %d blocks and %d phis are added", odd, added, phis)
	}
	for seed := range 150 {
		wantSimplified(t, fmt.Sprint("busy ", seed), sample.Busy(2+seed%40, seed), sample.Inputs())
	}
	wantSimplified(t, "deep", sample.Walking(sample.Deep(t)), sample.Walks())
	for rungs := 1; rungs < 12; rungs++ {
		wantSimplified(t, fmt.Sprint(rungs, " rungs"), sample.Walking(sample.Ladder(rungs)), sample.Walks())
	}
}
