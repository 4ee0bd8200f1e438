package canon_test

import (
	"slices"
	"testing"

	"strake/api"
	"strake/canon"
	"strake/interp"
	"strake/loops"
	"strake/sample"
	"strake/strict"
)

// goTo are the blocks of which something holds that go to a block.
func goTo(f api.Func, to int, holds func(b int) bool) []int {
	var all []int
	for b, block := range f.Blocks {
		if slices.Contains(block.Term.To, to) && holds(b) {
			all = append(all, b)
		}
	}
	return all
}

// plainByWords is what the chapter's words say of a loop.
func plainByWords(f api.Func, l api.Loop) bool {
	within := func(b int) bool { return slices.Contains(l.Blocks, b) }
	outside := func(b int) bool { return !within(b) }
	into := goTo(f, l.Head, outside)
	if len(into) != 1 || f.Blocks[into[0]].Term.Op != api.Jump || len(l.Latches) != 1 {
		return false
	}
	for _, exit := range l.Exits {
		if len(goTo(f, exit, outside)) > 0 {
			return false
		}
	}
	return true
}

// firstOdd is the head of the first loop that is not plain, 0 if all are.
func firstOdd(t *testing.T, f api.Func) int {
	t.Helper()
	all, e := loops.Forest(f)
	if e != api.OK {
		t.Fatalf("error %d", e)
	}
	for _, l := range all {
		if !plainByWords(f, l) {
			return l.Head
		}
	}
	return 0
}

func wantCheck(t *testing.T, what string, f api.Func, want int, wantE api.Errno) {
	t.Helper()
	if head, e := canon.Check(f); head != want || e != wantE {
		t.Errorf("%s: Check answers %d, %d, want %d, %d", what, head, e, want, wantE)
	}
}

// wantCheckByWords holds Check against the chapter's words.
func wantCheckByWords(t *testing.T, what string, f api.Func) {
	t.Helper()
	if head := firstOdd(t, f); head == 0 {
		wantCheck(t, what, f, 0, api.OK)
	} else {
		wantCheck(t, what, f, head, api.ErrLoop)
	}
}

func wantSimplify(t *testing.T, what string, f, want api.Func, wantE api.Errno) {
	t.Helper()
	if got, e := canon.Simplify(f); !sample.Same(got, want) || e != wantE {
		t.Errorf("%s: Simplify answers %v, %d, want %v, %d", what, got, e, want, wantE)
	}
}

// heads tells by its length how many loops there are.
func heads(f api.Func) []int {
	all, _ := loops.Forest(f)
	var heads []int
	for _, l := range all {
		heads = append(heads, l.Head)
	}
	return heads
}

// isSimplified asks for what P10.2 says of what Simplify makes of f, but for what it does.
func isSimplified(t *testing.T, what string, f, g api.Func) {
	t.Helper()
	if b, e := strict.Check(g); e != api.OK {
		t.Errorf("%s: what comes is not strict: error %d at %d", what, e, b)
		return
	}
	if head := firstOdd(t, g); head != 0 {
		t.Errorf("%s: the loop of %d is not plain: %v", what, head, g)
	}
	if was, is := heads(f), heads(g); !slices.Equal(was, is) {
		t.Errorf("%s: loops at %v, and behind at %v", what, was, is)
	}
	if firstOdd(t, f) == 0 && !sample.Same(f, g) {
		t.Errorf("%s: all loops were plain, and it is changed to %v", what, g)
	}
	wantSameBlocks(t, what, f, g)
	wantSimplify(t, what+", again", g, g, api.OK)
}

// wantSameBlocks asks for f's blocks with the same numbers and instructions, and for nothing but ways in the others.
func wantSameBlocks(t *testing.T, what string, f, g api.Func) {
	t.Helper()
	if len(g.Blocks) < len(f.Blocks) {
		t.Errorf("%s: just %d blocks are left", what, len(g.Blocks))
		return
	}
	for b, was := range f.Blocks {
		is := g.Blocks[b]
		same := slices.EqualFunc(was.Code, is.Code, func(a, b api.Instr) bool {
			return a.Op == b.Op && a.Id == b.Id && a.N == b.N && slices.Equal(a.Args, b.Args)
		})
		if !same || was.Term.Op != is.Term.Op || was.Term.Val != is.Term.Val || was.Term.N != is.Term.N {
			t.Errorf("%s: block %d is changed to %v", what, b, is)
		}
	}
	for b, added := range g.Blocks[len(f.Blocks):] {
		if len(added.Code) > 0 || added.Term.Op != api.Jump {
			t.Errorf("%s: block %d is added: %v", what, len(f.Blocks)+b, added)
		}
	}
}

// wantSimplified asks for all that P10.2 says, where what comes is within the limits.
func wantSimplified(t *testing.T, what string, f api.Func, ins []api.Input) api.Func {
	t.Helper()
	g, e := canon.Simplify(f)
	if e != api.OK {
		t.Errorf("%s: Simplify answers error %d", what, e)
		return g
	}
	isSimplified(t, what, f, g)
	wantDoes(t, what, f, g, ins)
	return g
}

// wantDoes asks for the same visits, too: no block of the function's own is passed by, or come to in another order.
func wantDoes(t *testing.T, what string, f, g api.Func, ins []api.Input) {
	t.Helper()
	for i, in := range ins {
		if why := sample.Does(f, g, in); why != "" {
			t.Errorf("%s, input %d: %s: %v, %v", what, i, why, f, g)
		}
		was := interp.Run(f, in, 2000)
		is := interp.Run(g, in, 20000)
		if was.End != api.NoFuel && !slices.Equal(was.Visits, is.Visits[:len(f.Blocks)]) {
			t.Errorf("%s, input %d: it came to %v, and now to %v", what, i, was.Visits, is.Visits)
		}
	}
}
