package strict_test

import (
	"math"
	"testing"

	"strake/api"
	"strake/ir"
	"strake/sample"
)

// wantErrors asks for an error of all calls, and for zero values beside it.
func wantErrors(t *testing.T, what string, f api.Func, want api.Errno) {
	t.Helper()
	wantCheck(t, what, f, 0, want)
	for _, id := range []int{math.MinInt, -1, 0, 1, 25, 999, math.MaxInt} {
		wantDef(t, what, f, id, 0, 0, want)
	}
}

// TestTellsErrors: each call answers ir.Check's error, ahead of its own.
func TestTellsErrors(t *testing.T) {
	sample.Wrong(func(what string, f api.Func, want api.Errno) { wantErrors(t, what, f, want) })
}

// askAll makes every call, and holds the answers against the plain words.
func askAll(t *testing.T, what string, f api.Func) {
	t.Helper()
	defer func() {
		if r := recover(); r != nil {
			t.Errorf("%s: panic: %v", what, r)
		}
	}()
	if e := ir.Check(f); e != api.OK {
		wantErrors(t, what, f, e)
		return
	}
	p := plainOf(f)
	block, e := p.check()
	wantCheck(t, what, f, block, e)
	for _, id := range sample.Edges() {
		if made, ok := p.made[id]; ok {
			wantDef(t, what, f, id, made[0], made[1], api.OK)
		} else {
			wantDef(t, what, f, id, 0, 0, api.ErrNone)
		}
	}
}

// TestAnyArgument has functions with all that is around a strict one, and around one that is not, and others (R1).
func TestAnyArgument(t *testing.T) {
	seen := map[api.Errno]int{}
	for _, f := range []api.Func{sample.Whole(), sample.Rich()} {
		sample.Turns(f, func(what string, f api.Func) {
			e := ir.Check(f)
			if e == api.OK {
				_, e = plainOf(f).check()
			}
			seen[e]++
			askAll(t, what, f)
		})
	}
	for _, e := range []api.Errno{api.OK, api.ErrForm, api.ErrType, api.ErrDead, api.ErrPhi, api.ErrUse} {
		if seen[e] < 10 {
			t.Errorf("error %d: just %d functions", e, seen[e])
		}
	}
}

// TestHandedInStays: no call changes what it is given, spare room of its lists included (R4).
func TestHandedInStays(t *testing.T) {
	ask := func(what string, f api.Func) {
		sample.Stays(t, what, f, func(what string, f api.Func) { askAll(t, what, f) })
	}
	ask("nothing", api.Func{})
	ask("rich", sample.Rich())
	ask("whole", sample.Whole())
	ask("a fan", fan())
	sample.Loose(func(what string, f api.Func, _ int, _ api.Errno) { ask(what, f) })
}

// TestNothingIsKept: what was asked ahead does not matter, nor what becomes of a function behind a call (R5).
func TestNothingIsKept(t *testing.T) {
	f := sample.Whole()
	for range 3 {
		wantCheck(t, "whole", f, 0, api.OK)
		wantErrors(t, "nothing", api.Func{}, api.ErrForm)
		askAll(t, "bare", sample.Bare())
		f.Blocks[4].Term.Val = 25
		wantCheck(t, "whole, changed in place", f, 4, api.ErrUse)
		f.Blocks[4].Term.Val = 24
		f.Blocks[2].Code[0].Id, f.Blocks[1].Phis[0].Vals[1] = 30, 30
		wantDef(t, "whole, changed in place", f, 25, 0, 0, api.ErrNone)
		wantDef(t, "whole, changed in place", f, 30, 2, 0, api.OK)
		f.Blocks[2].Code[0].Id, f.Blocks[1].Phis[0].Vals[1] = 25, 25
	}
	if !sample.Same(f, sample.Whole()) {
		t.Error("the function is another one")
	}
}
