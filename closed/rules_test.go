package closed_test

import (
	"fmt"
	"testing"

	"strake/api"
	"strake/closed"
	"strake/sample"
)

// tangled has loops in one another and one behind the other, none of them plain, and values of both types that leave some
// of them openly, some by phis.
func tangled(t *testing.T) api.Func {
	t.Helper()
	return numbered(t, "b0:", "branch v0 b1 b2", "b1:", "jump b3", "b2:", "branch v0 b3 b6",
		"b3:", "v3 = phi int b1 v1 b2 v2 b5 v8 b7 v3", "v4 = phi bool b7 v9 b1 v0 b5 v4 b2 v0", "branch v4 b4 b7",
		"b4:", "v5 = phi int b3 v3 b4 v6", "v6 = add v5 v1", "v7 = lt v6 v2", "branch v7 b8 b4",
		"b5:", "out v8", "branch v0 b3 b9",
		"b6:", "v10 = phi int b2 v1 b10 v12", "return v10",
		"b7:", "v8 = phi int b3 v3 b8 v6", "v9 = not v4", "branch v9 b3 b5",
		"b8:", "out v6", "branch v7 b7 b9",
		"b9:", "v11 = phi int b5 v8 b8 v5 b9 v11", "out v3", "v13 = select v4 v11 v3", "branch v0 b10 b9",
		"b10:", "v12 = add v13 v11", "branch v4 b6 b11",
		"b11:", "return v3")
}

func TestTangled(t *testing.T) {
	f := tangled(t)
	wantCheck(t, "tangled", f, 3, api.ErrLoop)
	wantMade(t, "tangled", f, numbered(t, "b0:", "branch v0 b1 b2", "b1:", "jump b3", "b2:", "branch v0 b3 b6",
		"b3:", "v3 = phi int b1 v1 b2 v2 b5 v8 b7 v3", "v4 = phi bool b7 v9 b1 v0 b5 v4 b2 v0", "branch v4 b4 b7",
		"b4:", "v5 = phi int b3 v3 b4 v6", "v6 = add v5 v1", "v7 = lt v6 v2", "branch v7 b8 b4",
		"b5:", "out v8", "branch v0 b3 b9",
		"b6:", "v10 = phi int b2 v1 b10 v12", "return v10",
		"b7:", "v8 = phi int b3 v3 b8 v18", "v9 = not v4", "branch v9 b3 b5",
		"b8:", "v17 = phi int b4 v5", "v18 = phi int b4 v6", "v19 = phi bool b4 v7", "out v18", "branch v19 b7 b9",
		"b9:", "v11 = phi int b5 v8 b8 v17 b9 v11", "v14 = phi int b5 v3 b8 v3 b9 v14", "v16 = phi bool b5 v4 b8 v4 b9 v16", "out v14", "v13 = select v16 v11 v14", "branch v0 b10 b9",
		"b10:", "v15 = phi int b9 v14", "v21 = phi bool b9 v16", "v22 = phi int b9 v11", "v20 = phi int b9 v13", "v12 = add v20 v22", "branch v21 b6 b11",
		"b11:", "return v15"))
}

// wantErrors asks for an error of both calls, and for zero values beside it.
func wantErrors(t *testing.T, what string, f api.Func, want api.Errno) {
	t.Helper()
	wantCheck(t, what, f, 0, want)
	wantClose(t, what, f, api.Func{}, want)
}

// TestTellsErrors: both calls answer strict.Check's error, ahead of their own.
func TestTellsErrors(t *testing.T) {
	sample.Wrong(func(what string, f api.Func, want api.Errno) { wantErrors(t, what, f, want) })
	sample.Loose(func(what string, f api.Func, _ int, want api.Errno) { wantErrors(t, what, f, want) })
	dead := tangled(t)
	dead.Blocks = append(dead.Blocks, api.Block{Term: sample.Jump(12)})
	wantErrors(t, "a loop that can't be come to", dead, api.ErrDead)
	full := padded(nested(3, 9), api.MaxCode-10)
	full.Blocks[0].Code[5].Args[0] = 9
	wantErrors(t, "one that would be beyond the limits, with a use ahead of its value", full, api.ErrUse)
}

// askAll makes both calls, and holds the answers against the promises.
func askAll(t *testing.T, what string, f api.Func) {
	t.Helper()
	refused := func(e api.Errno) { wantErrors(t, what, f, e) }
	sample.AskStrict(t, what, f, refused, func() { askStrict(t, what, f) })
}

// askStrict holds the answers for a strict function against the promises.
func askStrict(t *testing.T, what string, f api.Func) {
	t.Helper()
	wantCheckByWords(t, what, f)
	if g, e := closed.Close(f); e == api.OK {
		isClosed(t, what, f, g)
	} else {
		wantClose(t, what, f, api.Func{}, api.ErrBudget)
	}
}

// TestAnyArgument has functions with all that is around a strict one, and around others (R1).
func TestAnyArgument(t *testing.T) {
	sample.AskTurns(t, []api.Func{sample.Whole(), sample.Rich(), tangled(t), first(t)}, func(what string, f api.Func) { askAll(t, what, f) })
}

// TestTurnedDoes: what a function does with one thing changed is done by what comes, too.
func TestTurnedDoes(t *testing.T) {
	n := 0
	sample.Turns(tangled(t), func(what string, f api.Func) {
		if g, e := closed.Close(f); e == api.OK {
			n++
			wantDoes(t, what, f, g, sample.Inputs())
		}
	})
	if n < 100 {
		t.Errorf("just %d functions were made", n)
	}
}

// TestHandedInStays: no call changes what it is given, spare room of its lists included (R4).
func TestHandedInStays(t *testing.T) {
	ask := func(what string, f api.Func) {
		sample.Stays(t, what, f, func(what string, f api.Func) { askAll(t, what, f) })
	}
	ask("nothing", api.Func{})
	ask("whole", sample.Whole())
	ask("rich", sample.Rich())
	ask("deep", sample.Recalling(sample.Deep(t)))
	ask("tangled", tangled(t))
	ask("beyond the limits", wide(255, 14))
	for seed := range 60 {
		ask(fmt.Sprint("seed ", seed), sample.Busy(2+seed, seed))
	}
}

func closeOf(t *testing.T, f api.Func) api.Func {
	t.Helper()
	g, e := closed.Close(f)
	if e != api.OK {
		t.Fatalf("error %d", e)
	}
	return g
}

// TestAnswersAreNewMemory: no two lists of answers share memory, nor with what was handed in (R4).
func TestAnswersAreNewMemory(t *testing.T) {
	for _, f := range []api.Func{tangled(t), sample.Recalling(sample.Deep(t)), sample.Whole(), sample.Busy(9, 3), nested(4, 9), wide(5, 5), sample.Bare()} {
		for _, f := range []api.Func{f, sample.Roomy(f)} {
			if !sample.Apart(closeOf(t, f), f, closeOf(t, f)) {
				t.Error("answers share memory")
			}
		}
	}
	shared := tangled(t)
	phis := shared.Blocks[3].Phis
	phis[0].From, phis[0].Vals = []int{1, 2, 5, 7}, []int{1, 2, 8, 3}
	phis[1].From, phis[1].Vals = phis[0].From, []int{0, 0, 4, 9}
	shared.Blocks[2].Term.To = []int{3, 9}
	shared.Blocks[5].Term.To = shared.Blocks[2].Term.To
	shared.Blocks[6].Phis[0] = api.Phi{Id: 10, Type: api.Int, From: []int{10}, Vals: []int{12}}
	shared.Blocks[9].Phis[0] = api.Phi{Id: 11, Type: api.Int, From: []int{2, 5, 8, 9}, Vals: []int{1, 8, 1, 11}}
	shared.Blocks[9].Code, shared.Blocks[10].Code[0].Args[0], shared.Blocks[10].Term.Val, shared.Blocks[11].Term.Val = nil, 11, 0, 11
	if !sample.Apart(closeOf(t, shared), closeOf(t, shared)) {
		t.Error("answers share memory, where what was handed in does")
	}
}

// TestNothingIsKept: what was asked ahead does not matter, nor what becomes of a function behind a call (R5).
func TestNothingIsKept(t *testing.T) {
	f := tangled(t)
	want := closeOf(t, tangled(t))
	for range 3 {
		wantClose(t, "tangled", f, want, api.OK)
		wantErrors(t, "nothing", api.Func{}, api.ErrForm)
		askAll(t, "bare", sample.Bare())
		f.Blocks[11].Term.Val = 13
		f.Blocks[9].Code[0].Args[0] = 11
		askAll(t, "tangled, changed in place", f)
		sample.Fill(12345, closeOf(t, f))
		f = tangled(t)
	}
	g := closeOf(t, f)
	sample.Fill(12345, g)
	if !sample.Same(f, tangled(t)) {
		t.Error("the function is another one")
	}
	wantClose(t, "tangled, behind all", f, want, api.OK)
}

// TestSameAgain: where many values leave loops, what comes is the same each time, numbers of values included.
func TestSameAgain(t *testing.T) {
	for what, f := range map[string]api.Func{"wide": wide(9, 40), "deep": sample.Recalling(sample.Deep(t)), "nested": sample.Recalling(sample.Nested(9))} {
		want := closeOf(t, f)
		for range 20 {
			wantClose(t, what, f, want, api.OK)
		}
	}
}
