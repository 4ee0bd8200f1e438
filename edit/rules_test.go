package edit_test

import (
	"fmt"
	"math"
	"slices"
	"testing"

	"strake/api"
	"strake/edit"
	"strake/ir"
	"strake/sample"
)

// wantErrors asks for an error of all calls, ahead of their own, and for zero values beside it.
func wantErrors(t *testing.T, what string, f api.Func, want api.Errno) {
	t.Helper()
	for _, id := range []int{math.MinInt, -1, 0, 1, 2, 25, math.MaxInt} {
		wantReplace(t, what, f, id, 0, api.Func{}, want)
		wantReplace(t, what, f, 0, id, api.Func{}, want)
		wantClone(t, what, f, []int{id}, api.Func{}, nil, want)
		wantClone(t, what, f, []int{0, 1, id}, api.Func{}, nil, want)
	}
	wantClone(t, what, f, nil, api.Func{}, nil, want)
	wantRename(t, what, f, api.Func{}, want)
	wantAlike(t, what, f, f, false)
}

// TestTellsErrors: each call but Alike answers strict.Check's error.
func TestTellsErrors(t *testing.T) {
	sample.Wrong(func(what string, f api.Func, want api.Errno) { wantErrors(t, what, f, want) })
	sample.Loose(func(what string, f api.Func, _ int, want api.Errno) { wantErrors(t, what, f, want) })
}

// askAll makes every call, and holds the answers against the plain words.
func askAll(t *testing.T, what string, f api.Func) {
	t.Helper()
	refused := func(e api.Errno) { wantErrors(t, what, f, e) }
	sample.AskStrict(t, what, f, refused, func() { askStrict(t, what, f) })
}

// askStrict holds the answers for a strict function against the plain words.
func askStrict(t *testing.T, what string, f api.Func) {
	t.Helper()
	renamed := plainOf(t, f).rename().function(t)
	wantRename(t, what, f, renamed, api.OK)
	wantAlike(t, what, f, renamed, true)
	wantAlike(t, what, f, sample.Line(7), false)
	blocks := chosen(f, 7)
	if got, _, e := edit.Clone(f, blocks...); e == api.ErrForm {
		wantClone(t, what, f, blocks, api.Func{}, nil, api.ErrForm)
	} else {
		wantClone(t, what, f, blocks, plainOf(t, f).clone(blocks).function(t), upFrom(len(f.Blocks), len(blocks)), api.OK)
		if ir.Check(got) != api.OK {
			t.Errorf("%s: copies make %v", what, got)
		}
	}
	for _, old := range []int{-1, 0, 1, 2, 3, 24} {
		for _, now := range []int{-1, 0, 1, 2, 3, 24} {
			if _, e := edit.Replace(f, old, now); e == api.OK {
				wantReplace(t, what, f, old, now, plainOf(t, f).replace(old, now).function(t), api.OK)
			} else {
				wantReplace(t, what, f, old, now, api.Func{}, e)
			}
		}
	}
}

// TestAnyArgument has functions with all that is around a strict one, and around others (R1).
func TestAnyArgument(t *testing.T) {
	sample.AskTurns(t, []api.Func{sample.Whole(), sample.Rich()}, func(what string, f api.Func) { askAll(t, what, f) })
}

// TestHandedInStays: no call changes what it is given, spare room of its lists included (R4).
func TestHandedInStays(t *testing.T) {
	ask := func(what string, f api.Func) {
		sample.Stays(t, what, f, func(what string, f api.Func) { askAll(t, what, f) })
	}
	ask("nothing", api.Func{})
	ask("whole", sample.Whole())
	ask("rich", sample.Rich())
	ask("round", round(t))
	for seed := range 40 {
		ask(fmt.Sprint("seed ", seed), sample.Busy(2+seed, seed))
	}
}

// TestBlocksStay: the list of blocks that Clone is given is neither changed nor kept (R4).
func TestBlocksStay(t *testing.T) {
	room := []int{2, 1, 3, 71, 72, 73}
	for n := range 4 {
		g, copies, e := edit.Clone(round(t), room[:n]...)
		if !slices.Equal(room, []int{2, 1, 3, 71, 72, 73}) || e != api.OK {
			t.Fatalf("Clone changes the blocks to %v, error %d", room, e)
		}
		before := fmt.Sprint(copies)
		sample.Fill(12345, g)
		if fmt.Sprint(copies) != before || !slices.Equal(room, []int{2, 1, 3, 71, 72, 73}) {
			t.Errorf("writing over what comes makes copies %v, and the blocks %v", copies, room)
		}
	}
	g, copies, _ := edit.Clone(round(t), room[:3]...)
	before := sample.Memory(g)
	for i := range copies[:cap(copies)] {
		copies[:cap(copies)][i] = 12345
	}
	if sample.Memory(g) != before || !slices.Equal(room, []int{2, 1, 3, 71, 72, 73}) {
		t.Error("the list of copies shares memory")
	}
}

// changed are the answers of the calls that change a function.
func changed(t *testing.T, f api.Func) []api.Func {
	t.Helper()
	replaced, e1 := edit.Replace(f, 3, 0)
	none, _, e2 := edit.Clone(f)
	two, _, e3 := edit.Clone(f, 2, 1)
	all, _, e4 := edit.Clone(f, 0, 1, 2, 3)
	renamed, e5 := edit.Rename(f)
	if e1 != api.OK || e2 != api.OK || e3 != api.OK || e4 != api.OK || e5 != api.OK {
		t.Fatalf("errors %d, %d, %d, %d, %d", e1, e2, e3, e4, e5)
	}
	return []api.Func{replaced, none, two, all, renamed}
}

// TestAnswersAreNewMemory: no two lists of answers share memory, nor with what was handed in (R4).
func TestAnswersAreNewMemory(t *testing.T) {
	for _, f := range []api.Func{round(t), sample.Roomy(round(t))} {
		all := append(changed(t, f), changed(t, f)...)
		if !sample.Apart(append(all, f)...) {
			t.Error("answers share memory")
		}
	}
	shared := round(t)
	shared.Blocks[1].Phis[1].From = []int{0, 2}
	shared.Blocks[1].Phis[1].Vals = []int{1, 7}
	shared.Blocks[1].Phis[0].From = shared.Blocks[1].Phis[1].From
	shared.Blocks[2].Term.To = shared.Blocks[0].Term.To
	shared.Blocks[2].Code[0].Args = shared.Blocks[2].Code[1].Args
	if !sample.Apart(changed(t, shared)...) {
		t.Error("answers share memory, where what was handed in does")
	}
}

// TestNothingIsKept: what was asked ahead does not matter, nor what becomes of a function behind a call (R5).
func TestNothingIsKept(t *testing.T) {
	f := round(t)
	for range 3 {
		askAll(t, "round", f)
		wantErrors(t, "nothing", api.Func{}, api.ErrForm)
		askAll(t, "bare", sample.Bare())
		f.Blocks[0].Code[0].N = 9
		askAll(t, "round, changed in place", f)
		wantAlike(t, "round, changed in place", f, round(t), false)
		f.Blocks[0].Code[0].N = 0
		wantAlike(t, "round, as it was", f, round(t), true)
		sample.Fill(12345, changed(t, f)...)
	}
	if !sample.Same(f, round(t)) {
		t.Error("the function is another one")
	}
}
