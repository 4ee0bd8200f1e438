package loops_test

import (
	"fmt"
	"slices"
	"testing"

	"strake/api"
	"strake/loops"
	"strake/sample"
)

// wantErrors asks for an error of all calls, and for zero values beside it.
func wantErrors(t *testing.T, what string, f api.Func, want api.Errno) {
	t.Helper()
	wantForest(t, what, f, nil, want)
	wantDepths(t, what, f, nil, want)
	wantOdd(t, what, f, nil, want)
}

// TestTellsErrors: each call answers strict.Check's error.
func TestTellsErrors(t *testing.T) {
	sample.Wrong(func(what string, f api.Func, want api.Errno) { wantErrors(t, what, f, want) })
	sample.Loose(func(what string, f api.Func, _ int, want api.Errno) { wantErrors(t, what, f, want) })
	dead := sample.Deep(t)
	dead.Blocks = append(dead.Blocks, api.Block{Term: sample.Jump(13)})
	wantErrors(t, "a loop that can't be come to", dead, api.ErrDead)
}

// askAll makes every call, and holds the answers against the plain words.
func askAll(t *testing.T, what string, f api.Func) {
	t.Helper()
	refused := func(e api.Errno) { wantErrors(t, what, f, e) }
	sample.AskStrict(t, what, f, refused, func() { wantPlain(t, what, f) })
}

// TestAnyArgument has functions with all that is around a strict one, and around others (R1).
func TestAnyArgument(t *testing.T) {
	sample.AskTurns(t, []api.Func{sample.Whole(), sample.Rich(), sample.Deep(t)}, func(what string, f api.Func) { askAll(t, what, f) })
}

// TestHandedInStays: no call changes what it is given, spare room of its lists included (R4).
func TestHandedInStays(t *testing.T) {
	ask := func(what string, f api.Func) {
		sample.Stays(t, what, f, func(what string, f api.Func) { askAll(t, what, f) })
	}
	ask("nothing", api.Func{})
	ask("whole", sample.Whole())
	ask("rich", sample.Rich())
	ask("deep", sample.Deep(t))
	for seed := range 60 {
		ask(fmt.Sprint("seed ", seed), sample.Busy(2+seed, seed))
	}
}

// listsOf are the lists of all answers.
func listsOf(t *testing.T, f api.Func) [][]int {
	t.Helper()
	forest, e1 := loops.Forest(f)
	depths, e2 := loops.Depths(f)
	odd, e3 := loops.Odd(f)
	if e1 != api.OK || e2 != api.OK || e3 != api.OK {
		t.Fatalf("errors %d, %d, %d", e1, e2, e3)
	}
	all := [][]int{depths, odd}
	for _, l := range forest[:cap(forest)] {
		all = append(all, l.Blocks, l.Latches, l.Exits)
	}
	return all
}

// TestAnswersAreNewMemory: writing over an answer changes neither the function nor another answer (R4, R5).
func TestAnswersAreNewMemory(t *testing.T) {
	for what, f := range map[string]api.Func{"deep": sample.Deep(t), "both ways": sample.BothWays(), "a nest": sample.Nested(20)} {
		f = sample.Roomy(f)
		before := sample.Memory(f)
		if !sample.AloneLists(slices.Concat(listsOf(t, f), listsOf(t, f))) || sample.Memory(f) != before {
			t.Errorf("%s: lists share memory", what)
		}
		askAll(t, what+", behind it", f)
	}
	first, _ := loops.Forest(sample.Deep(t))
	second, _ := loops.Forest(sample.Deep(t))
	clear(first[:cap(first)])
	if !slices.EqualFunc(second, deepLoops(), sameLoop) {
		t.Error("the lists of Forest share memory")
	}
}

// TestNothingIsKept: what was asked ahead does not matter, nor what becomes of a function behind a call (R5).
func TestNothingIsKept(t *testing.T) {
	f := sample.Deep(t)
	for range 3 {
		wantForest(t, "deep", f, deepLoops(), api.OK)
		wantErrors(t, "nothing", api.Func{}, api.ErrForm)
		askAll(t, "bare", sample.Bare())
		f.Blocks[1].Term.To[0] = 3
		askAll(t, "deep, changed in place", f)
		f.Blocks[1].Term.To[0] = 1
		f.Blocks[9].Term = sample.Return(0)
		wantErrors(t, "deep, cut in place", f, api.ErrDead)
		f.Blocks[9].Term = sample.Jump(3)
	}
	if !sample.Same(f, sample.Deep(t)) {
		t.Error("the function is another one")
	}
}
