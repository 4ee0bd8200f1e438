package closed_test

import (
	"slices"
	"testing"

	"strake/api"
	"strake/closed"
	"strake/interp"
	"strake/ir"
	"strake/loops"
	"strake/sample"
	"strake/strict"
)

// use is one of a value: in a block, of a phi from one, else from -1.
type use struct{ id, block, from int }

func usesOf(f api.Func) []use {
	var all []use
	for b, block := range f.Blocks {
		for _, p := range block.Phis {
			for i, id := range p.Vals {
				all = append(all, use{id, b, p.From[i]})
			}
		}
		for _, in := range block.Code {
			for _, id := range in.Args {
				all = append(all, use{id, b, -1})
			}
		}
		if op := block.Term.Op; op == api.Branch || op == api.Return {
			all = append(all, use{block.Term.Val, b, -1})
		}
	}
	return all
}

// isOpen is what the chapter's words say of a value that is made in a block, and of a use of it.
func isOpen(all []api.Loop, made int, u use) bool {
	return slices.ContainsFunc(all, func(l api.Loop) bool {
		has := func(b int) bool { return slices.Contains(l.Blocks, b) }
		return has(made) && !has(u.block) && !(u.from >= 0 && has(u.from))
	})
}

// madeIn tells of each value in which block it is made; parameters, which no block makes, are left out.
func madeIn(f api.Func) map[int]int {
	made := map[int]int{}
	for b, block := range f.Blocks {
		for _, p := range block.Phis {
			made[p.Id] = b
		}
		for _, in := range block.Code {
			if in.Id >= 0 {
				made[in.Id] = b
			}
		}
	}
	return made
}

// openByWords are the values that leave a loop openly, rising.
func openByWords(f api.Func) []int {
	all, _ := loops.Forest(f)
	made := madeIn(f)
	var open []int
	for _, u := range usesOf(f) {
		if b, ok := made[u.id]; ok && isOpen(all, b, u) {
			open = append(open, u.id)
		}
	}
	slices.Sort(open)
	return slices.Compact(open)
}

func wantCheck(t *testing.T, what string, f api.Func, want int, wantE api.Errno) {
	t.Helper()
	if id, e := closed.Check(f); id != want || e != wantE {
		t.Errorf("%s: Check answers %d, %d, want %d, %d", what, id, e, want, wantE)
	}
}

// wantCheckByWords holds Check against the chapter's words.
func wantCheckByWords(t *testing.T, what string, f api.Func) {
	t.Helper()
	if open := openByWords(f); len(open) > 0 {
		wantCheck(t, what, f, open[0], api.ErrLoop)
	} else {
		wantCheck(t, what, f, 0, api.OK)
	}
}

func wantClose(t *testing.T, what string, f, want api.Func, wantE api.Errno) {
	t.Helper()
	if got, e := closed.Close(f); !sample.Same(got, want) || e != wantE {
		t.Errorf("%s: Close answers %v, %d, want %v, %d", what, got, e, want, wantE)
	}
}

// isClosed asks for what P11.2 says of what Close makes of f, but for what it does.
func isClosed(t *testing.T, what string, f, g api.Func) {
	t.Helper()
	if b, e := strict.Check(g); e != api.OK {
		t.Errorf("%s: what comes is not strict: error %d at %d: %v", what, e, b, g)
		return
	}
	if open := openByWords(g); len(open) > 0 {
		t.Errorf("%s: %v leave loops openly: %v", what, open, g)
	}
	if len(openByWords(f)) == 0 && !sample.Same(f, g) {
		t.Errorf("%s: nothing left a loop openly, and it is changed to %v", what, g)
	}
	wantSameBlocks(t, what, f, g)
	wantClose(t, what+", again", g, g, api.OK)
}

// sameButUses tells whether two blocks are one, but for values used and the second one's phis behind the first one's.
func sameButUses(was, is api.Block) bool {
	samePhi := func(a, b api.Phi) bool { return a.Id == b.Id && a.Type == b.Type && slices.Equal(a.From, b.From) }
	sameInstr := func(a, b api.Instr) bool {
		return a.Op == b.Op && a.Id == b.Id && a.N == b.N && len(a.Args) == len(b.Args)
	}
	return len(is.Phis) >= len(was.Phis) && slices.EqualFunc(was.Phis, is.Phis[:len(was.Phis)], samePhi) &&
		slices.EqualFunc(was.Code, is.Code, sameInstr) &&
		was.Term.Op == is.Term.Op && was.Term.N == is.Term.N && slices.Equal(was.Term.To, is.Term.To)
}

func wantSameBlocks(t *testing.T, what string, f, g api.Func) {
	t.Helper()
	if !slices.Equal(f.Params, g.Params) || f.Arrays != g.Arrays || f.Cells != g.Cells {
		t.Errorf("%s: parameters, arrays or cells are changed", what)
	}
	if !slices.EqualFunc(f.Blocks, g.Blocks, sameButUses) {
		t.Errorf("%s: more than uses and new phis is changed: %v, %v", what, f, g)
	}
}

func sameTrace(a, b api.Trace) bool {
	return a.End == b.End && a.Value == b.Value && a.Trap == b.Trap && slices.Equal(a.Out, b.Out) &&
		slices.EqualFunc(a.Arrays, b.Arrays, slices.Equal) && a.Steps == b.Steps && a.Checks == b.Checks && slices.Equal(a.Visits, b.Visits)
}

// wantDoes asks for the same traces with any fuel: phis are no steps.
func wantDoes(t *testing.T, what string, f, g api.Func, ins []api.Input) {
	t.Helper()
	for i, in := range ins {
		if why := sample.Does(f, g, in); why != "" {
			t.Errorf("%s, input %d: %s: %v, %v", what, i, why, f, g)
		}
		for _, fuel := range []int{0, 3, 20, 61, 2000} {
			if was, is := interp.Run(f, in, fuel), interp.Run(g, in, fuel); !sameTrace(was, is) {
				t.Errorf("%s, input %d, fuel %d: the run was %v, and is %v", what, i, fuel, was, is)
			}
		}
	}
}

// wantClosed asks for all that P11.2 says, where what comes is within the limits.
func wantClosed(t *testing.T, what string, f api.Func, ins []api.Input) api.Func {
	t.Helper()
	g, e := closed.Close(f)
	if e != api.OK {
		t.Errorf("%s: Close answers error %d", what, e)
		return g
	}
	isClosed(t, what, f, g)
	wantDoes(t, what, f, g, ins)
	return g
}

func phisOf(f api.Func) int {
	n := 0
	for _, b := range f.Blocks {
		n += len(b.Phis)
	}
	return n
}

// addedTo is how much greater g is than f.
func addedTo(t *testing.T, f, g api.Func) int {
	t.Helper()
	was, e := ir.Size(f)
	is, d := ir.Size(g)
	if e != api.OK || d != api.OK {
		t.Fatalf("errors %d, %d", e, d)
	}
	return is - was
}
