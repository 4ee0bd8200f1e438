package repair_test

import (
	"fmt"
	"slices"
	"testing"

	"strake/api"
	"strake/repair"
	"strake/sample"
)

// wantErrors asks for an error of all calls, and for zero values beside it.
func wantErrors(t *testing.T, what string, f api.Func, want api.Errno) {
	t.Helper()
	wantPlaces(t, what, f, nil, want)
	wantBuild(t, what, f, api.Func{}, want)
	wantLower(t, what, f, api.Func{}, want)
}

// TestTellsErrors: each call answers strict.Check's error, ahead of its own.
func TestTellsErrors(t *testing.T) {
	sample.Wrong(func(what string, f api.Func, want api.Errno) { wantErrors(t, what, f, want) })
	sample.Loose(func(what string, f api.Func, _ int, want api.Errno) {
		wantErrors(t, what, f, want)
		f.Cells = api.MaxCells
		wantErrors(t, what+", with many cells", f, want)
	})
	f := fan(400, 65, api.Int)
	f.Blocks = append(f.Blocks, api.Block{Term: sample.Trap(0)})
	wantErrors(t, "too many cells, and a block that can't be come to", f, api.ErrDead)
}

// askAll makes every call, and holds the answers against the promises.
func askAll(t *testing.T, what string, f api.Func) {
	t.Helper()
	refused := func(e api.Errno) { wantErrors(t, what, f, e) }
	sample.AskStrict(t, what, f, refused, func() { askStrict(t, what, f) })
}

// askStrict holds the answers for a strict function against the promises.
func askStrict(t *testing.T, what string, f api.Func) {
	t.Helper()
	wantPlaces(t, what, f, plainPlaces(f), api.OK)
	if g, e := repair.Build(f); e == api.OK {
		isBuilt(t, what, f, g)
	} else {
		wantBuild(t, what, f, api.Func{}, api.ErrForm)
	}
	if g, e := repair.Lower(f); e == api.OK {
		isLowered(t, what, f, g)
	} else if phisOf(f)+f.Cells > api.MaxCells {
		wantLower(t, what, f, api.Func{}, api.ErrCell)
	} else {
		wantLower(t, what, f, api.Func{}, api.ErrForm)
	}
}

// TestAnyArgument has functions with all that is around a strict one, and around others (R1).
func TestAnyArgument(t *testing.T) {
	sample.AskTurns(t, []api.Func{sample.Whole(), sample.Rich(), rounds(t), turns(t)}, func(what string, f api.Func) { askAll(t, what, f) })
}

// TestTurnedDoes: what a function does with one thing changed is done by what comes, too.
func TestTurnedDoes(t *testing.T) {
	n := 0
	hold := func(what string, f, g api.Func, e api.Errno) {
		if e == api.OK {
			n++
			wantDoes(t, what, f, g)
		}
	}
	for _, f := range []api.Func{rounds(t), turns(t)} {
		sample.Turns(f, func(what string, f api.Func) {
			g, e := repair.Build(f)
			hold(what+", built", f, g, e)
			g, e = repair.Lower(f)
			hold(what+", lowered", f, g, e)
		})
	}
	if n < 100 {
		t.Errorf("just %d functions were made", n)
	}
}

// TestHandedInStays: no call changes what it is given, spare room of its lists included (R4).
func TestHandedInStays(t *testing.T) {
	ask := func(what string, f api.Func) {
		sample.Stays(t, what, f, func(what string, f api.Func) { askAll(t, what, f) })
	}
	ask("nothing", api.Func{})
	ask("whole", sample.Whole())
	ask("rich", sample.Rich())
	ask("rounds", rounds(t))
	ask("turns", turns(t))
	for seed := range 60 {
		ask(fmt.Sprint("seed ", seed), sample.Celled(2+seed, seed))
	}
}

// changed are the answers of the calls that change a function.
func changed(t *testing.T, f api.Func) []api.Func {
	t.Helper()
	built, e1 := repair.Build(f)
	lowered, e2 := repair.Lower(f)
	if e1 != api.OK || e2 != api.OK {
		t.Fatalf("errors %d, %d", e1, e2)
	}
	return []api.Func{built, lowered}
}

// TestAnswersAreNewMemory: no two lists of answers share memory, nor with what was handed in (R4).
func TestAnswersAreNewMemory(t *testing.T) {
	for _, f := range []api.Func{rounds(t), turns(t), sample.Whole(), sample.Celled(9, 3), sample.Bare()} {
		for _, f := range []api.Func{f, sample.Roomy(f)} {
			all := append(changed(t, f), changed(t, f)...)
			if !sample.Apart(append(all, f)...) {
				t.Error("answers share memory")
			}
		}
	}
	shared := turns(t)
	shared.Blocks[1].Phis[1].From = []int{0, 2}
	shared.Blocks[1].Phis[1].Vals = []int{3, 4}
	shared.Blocks[1].Phis[0].From = shared.Blocks[1].Phis[1].From
	shared.Blocks[2].Term.To = shared.Blocks[0].Term.To
	shared.Blocks[0].Code[2].Args = shared.Blocks[1].Phis[1].Vals[:1]
	if !sample.Apart(changed(t, shared)...) {
		t.Error("answers share memory, where what was handed in does")
	}
}

// TestPlacesAreNewMemory: writing over the lists changes neither the function nor another answer (R4).
func TestPlacesAreNewMemory(t *testing.T) {
	f := sample.Roomy(nested(20))
	f.Cells = 3
	before := sample.Memory(f)
	first, _ := repair.Places(f)
	second, _ := repair.Places(f)
	if !sample.AloneLists(slices.Concat(first, second)) || sample.Memory(f) != before {
		t.Error("lists share memory")
	}
	clear(first[:cap(first)])
	if len(second[0]) == 0 {
		t.Error("the lists of Places share memory")
	}
	wantPlaces(t, "a nest", f, [][]int{upFrom(1, 20), nil, nil}, api.OK)
}

// TestNothingIsKept: what was asked ahead does not matter, nor what becomes of a function behind a call (R5).
func TestNothingIsKept(t *testing.T) {
	f := rounds(t)
	for range 3 {
		askAll(t, "rounds", f)
		wantErrors(t, "nothing", api.Func{}, api.ErrForm)
		askAll(t, "turns", turns(t))
		wantPlaces(t, "rounds", f, [][]int{{1}, {1}, nil, nil}, api.OK)
		f.Blocks[2].Code[4].N = 2
		wantPlaces(t, "rounds, changed in place", f, [][]int{{1}, nil, {1}, nil}, api.OK)
		askAll(t, "rounds, changed in place", f)
		f.Blocks[2].Code[4].N = 1
		sample.Fill(12345, changed(t, f)...)
	}
	if !sample.Same(f, rounds(t)) {
		t.Error("the function is another one")
	}
}
