package canon_test

import (
	"fmt"
	"testing"

	"strake/api"
	"strake/canon"
	"strake/sample"
)

// tangled has two loops that are plain in no way, and phis that get one value and several.
func tangled(t *testing.T) api.Func {
	t.Helper()
	return numbered(t, "b0:", "branch v0 b1 b2", "b1:", "jump b3", "b2:", "branch v0 b3 b6",
		"b3:", "v3 = phi int b1 v1 b2 v2 b5 v8 b7 v3", "v4 = phi bool b7 v9 b1 v0 b5 v4 b2 v0", "branch v4 b4 b7",
		"b4:", "v5 = phi int b3 v3 b4 v6", "v6 = add v5 v1", "v7 = lt v6 v2", "branch v7 b4 b7",
		"b5:", "out v8", "branch v0 b3 b6",
		"b6:", "v10 = phi int b2 v1 b5 v3", "return v10",
		"b7:", "v8 = phi int b3 v3 b4 v6", "v9 = not v4", "branch v9 b3 b5")
}

func TestTangled(t *testing.T) {
	f := tangled(t)
	wantCheck(t, "tangled", f, 3, api.ErrLoop)
	wantMade(t, "tangled", f, numbered(t, "b0:", "branch v0 b1 b2", "b1:", "jump b8", "b2:", "branch v0 b8 b6",
		"b3:", "v3 = phi int b8 v11 b9 v12", "v4 = phi bool b8 v0 b9 v13", "branch v4 b10 b7",
		"b4:", "v5 = phi int b10 v3 b4 v6", "v6 = add v5 v1", "v7 = lt v6 v2", "branch v7 b4 b11",
		"b5:", "out v8", "branch v0 b9 b12",
		"b6:", "v10 = phi int b2 v1 b12 v3", "return v10",
		"b7:", "v8 = phi int b3 v3 b11 v6", "v9 = not v4", "branch v9 b9 b5",
		"b8:", "v11 = phi int b1 v1 b2 v2", "jump b3", "b9:", "v12 = phi int b5 v8 b7 v3", "v13 = phi bool b5 v4 b7 v9", "jump b3",
		"b10:", "jump b4", "b11:", "jump b7", "b12:", "jump b6"))
}

// wantErrors asks for an error of both calls, and for zero values beside it.
func wantErrors(t *testing.T, what string, f api.Func, want api.Errno) {
	t.Helper()
	wantCheck(t, what, f, 0, want)
	wantSimplify(t, what, f, api.Func{}, want)
}

// TestTellsErrors: both calls answer strict.Check's error, ahead of their own.
func TestTellsErrors(t *testing.T) {
	sample.Wrong(func(what string, f api.Func, want api.Errno) { wantErrors(t, what, f, want) })
	sample.Loose(func(what string, f api.Func, _ int, want api.Errno) { wantErrors(t, what, f, want) })
	dead := tangled(t)
	dead.Blocks = append(dead.Blocks, api.Block{Term: sample.Jump(8)})
	wantErrors(t, "a loop that can't be come to", dead, api.ErrDead)
	full := again(api.MaxBlocks)
	full.Blocks[8].Term = sample.Jump(8)
	wantErrors(t, "one that would be beyond the limits, with blocks that can't be come to", full, api.ErrDead)
}

// askAll makes both calls, and holds the answers against the promises.
func askAll(t *testing.T, what string, f api.Func) {
	t.Helper()
	refused := func(e api.Errno) { wantErrors(t, what, f, e) }
	sample.AskStrict(t, what, f, refused, func() { askStrict(t, what, f) })
}

// askStrict holds the answers for a strict function against the promises.
func askStrict(t *testing.T, what string, f api.Func) {
	t.Helper()
	wantCheckByWords(t, what, f)
	if g, e := canon.Simplify(f); e == api.OK {
		isSimplified(t, what, f, g)
	} else {
		wantSimplify(t, what, f, api.Func{}, api.ErrBudget)
	}
}

// TestAnyArgument has functions with all that is around a strict one, and around others (R1).
func TestAnyArgument(t *testing.T) {
	sample.AskTurns(t, []api.Func{sample.Whole(), sample.Rich(), tangled(t)}, func(what string, f api.Func) { askAll(t, what, f) })
}

// TestTurnedDoes: what a function does with one thing changed is done by what comes, too.
func TestTurnedDoes(t *testing.T) {
	n := 0
	sample.Turns(tangled(t), func(what string, f api.Func) {
		if g, e := canon.Simplify(f); e == api.OK {
			n++
			wantDoes(t, what, f, g, sample.Inputs())
		}
	})
	if n < 100 {
		t.Errorf("just %d functions were made", n)
	}
}

// TestHandedInStays: no call changes what it is given, spare room of its lists included (R4).
func TestHandedInStays(t *testing.T) {
	ask := func(what string, f api.Func) {
		sample.Stays(t, what, f, func(what string, f api.Func) { askAll(t, what, f) })
	}
	ask("nothing", api.Func{})
	ask("whole", sample.Whole())
	ask("rich", sample.Rich())
	ask("deep", sample.Walking(sample.Deep(t)))
	ask("tangled", tangled(t))
	ask("beyond the limits", again(api.MaxBlocks))
	for seed := range 60 {
		ask(fmt.Sprint("seed ", seed), sample.Busy(2+seed, seed))
	}
}

func simplified(t *testing.T, f api.Func) api.Func {
	t.Helper()
	g, e := canon.Simplify(f)
	if e != api.OK {
		t.Fatalf("error %d", e)
	}
	return g
}

// TestAnswersAreNewMemory: no two lists of answers share memory, nor with what was handed in (R4).
func TestAnswersAreNewMemory(t *testing.T) {
	for _, f := range []api.Func{tangled(t), sample.Walking(sample.Deep(t)), sample.Whole(), sample.Busy(9, 3), sample.Nested(4), sample.Bare()} {
		for _, f := range []api.Func{f, sample.Roomy(f)} {
			if !sample.Apart(simplified(t, f), f, simplified(t, f)) {
				t.Error("answers share memory")
			}
		}
	}
	shared := tangled(t)
	phis := shared.Blocks[3].Phis
	phis[0].From, phis[0].Vals = []int{1, 2, 5, 7}, []int{1, 2, 8, 3}
	phis[1].From, phis[1].Vals = phis[0].From, []int{0, 0, 4, 9}
	shared.Blocks[2].Term.To = shared.Blocks[5].Term.To
	if !sample.Apart(simplified(t, shared), simplified(t, shared)) {
		t.Error("answers share memory, where what was handed in does")
	}
}

// TestNothingIsKept: what was asked ahead does not matter, nor what becomes of a function behind a call (R5).
func TestNothingIsKept(t *testing.T) {
	f := tangled(t)
	want := simplified(t, tangled(t))
	for range 3 {
		wantSimplify(t, "tangled", f, want, api.OK)
		wantErrors(t, "nothing", api.Func{}, api.ErrForm)
		askAll(t, "bare", sample.Bare())
		f.Blocks[7].Term.To[0] = 5
		f.Blocks[3].Phis[0] = api.Phi{Id: 3, Type: api.Int, From: []int{1, 2, 5}, Vals: []int{1, 2, 8}}
		f.Blocks[3].Phis[1] = api.Phi{Id: 4, Type: api.Bool, From: []int{1, 2, 5}, Vals: []int{0, 0, 9}}
		askAll(t, "tangled, changed in place", f)
		sample.Fill(12345, simplified(t, f))
		f = tangled(t)
	}
	g := simplified(t, f)
	sample.Fill(12345, g)
	if !sample.Same(f, tangled(t)) {
		t.Error("the function is another one")
	}
	wantSimplify(t, "tangled, behind all", f, want, api.OK)
}

// TestSameAgain: where much is to be parted, what comes is the same each time, numbers of blocks and values included.
func TestSameAgain(t *testing.T) {
	for what, f := range map[string]api.Func{"a crowd": crowd(20, 3), "each goes to itself": alone(40), "deep": sample.Walking(sample.Deep(t))} {
		want := simplified(t, f)
		for range 20 {
			wantSimplify(t, what, f, want, api.OK)
		}
	}
}
