package dom_test

import (
	"math"
	"slices"
	"testing"

	"strake/api"
	"strake/dom"
	"strake/ir"
	"strake/sample"
)

// wantErrors asks for an error of all calls, and for zero values beside it.
func wantErrors(t *testing.T, what string, f api.Func, want api.Errno) {
	t.Helper()
	if got, e := dom.Idoms(f); len(got) != 0 || e != want {
		t.Errorf("%s: Idoms answers %v, %d, want error %d", what, got, e, want)
	}
	if got, e := dom.Frontiers(f); len(got) != 0 || e != want {
		t.Errorf("%s: Frontiers answers %v, %d, want error %d", what, got, e, want)
	}
	for _, at := range [][2]int{{0, 0}, {1, 2}, {-1, 0}, {0, 999}, {math.MinInt, math.MaxInt}} {
		wantDominates(t, what, f, at[0], at[1], false, want)
		wantMeet(t, what, f, at[:], 0, want)
	}
	wantMeet(t, what, f, nil, 0, want)
}

// TestTellsErrors: each call answers ir.Check's error, ahead of its own.
func TestTellsErrors(t *testing.T) {
	sample.Wrong(func(what string, f api.Func, want api.Errno) { wantErrors(t, what, f, want) })
}

// askAll makes every call, and holds the answers against the plain words.
func askAll(t *testing.T, what string, f api.Func) {
	t.Helper()
	defer func() {
		if r := recover(); r != nil {
			t.Errorf("%s: panic: %v", what, r)
		}
	}()
	if e := ir.Check(f); e != api.OK {
		wantErrors(t, what, f, e)
		return
	}
	wantPlain(t, what, f)
	wantMeet(t, what, f, nil, 0, api.ErrArg)
	for _, n := range []int{math.MinInt, -1, len(f.Blocks), math.MaxInt} {
		wantDominates(t, what, f, 0, n, false, api.ErrNone)
		wantDominates(t, what, f, n, 0, false, api.ErrNone)
		wantMeet(t, what, f, []int{0, n}, 0, api.ErrNone)
	}
}

// TestAnyArgument has functions with all that is around a right one, and others (R1). Whether uses come behind their
// values does not matter here.
func TestAnyArgument(t *testing.T) {
	right := 0
	sample.Turns(sample.Rich(), func(what string, f api.Func) {
		if ir.Check(f) == api.OK {
			right++
		}
		askAll(t, what, f)
	})
	if right < 100 {
		t.Errorf("just %d functions were right", right)
	}
}

// TestHandedInStays: no call changes what it is given, spare room of its lists included (R4).
func TestHandedInStays(t *testing.T) {
	for what, f := range map[string]api.Func{"rich": sample.Rich(), "nest": nest(t), "two heads": twoHeads(t), "nothing": {}} {
		sample.Stays(t, what, f, func(what string, f api.Func) { askAll(t, what, f) })
	}
	blocks := []int{8, 3, 4, 77, 78}
	wantMeet(t, "nest", nest(t), blocks[:3], 2, api.OK)
	wantMeet(t, "nest", nest(t), blocks[:4], 0, api.ErrNone)
	if !slices.Equal(blocks, []int{8, 3, 4, 77, 78}) {
		t.Errorf("the blocks that were handed in are now %v", blocks)
	}
}

// TestAnswersAreNewMemory: writing over an answer changes neither the function nor another answer (R4, R5).
func TestAnswersAreNewMemory(t *testing.T) {
	f := sample.Roomy(nest(t))
	before := sample.Memory(f)
	first, _ := dom.Frontiers(f)
	second, _ := dom.Frontiers(f)
	idoms, _ := dom.Idoms(f)
	others, _ := dom.Idoms(f)
	if !sample.AloneLists(slices.Concat(first, second, [][]int{idoms, others})) || sample.Memory(f) != before {
		t.Error("lists share memory")
	}
	clear(first[:cap(first)])
	if len(second[1]) == 0 {
		t.Error("the lists of Frontiers share memory")
	}
	askAll(t, "nest, behind it", f)
}

// TestNothingIsKept: what was asked ahead does not matter, nor what becomes of a function behind a call (R5).
func TestNothingIsKept(t *testing.T) {
	f := nest(t)
	for range 3 {
		askAll(t, "nest", f)
		wantErrors(t, "nothing", api.Func{}, api.ErrForm)
		askAll(t, "bare", sample.Bare())
		f.Blocks[0].Term.To[0] = 11
		askAll(t, "nest, changed in place", f)
		f.Blocks[0].Term.To[0] = 9
	}
	if !sample.Same(f, nest(t)) {
		t.Error("the function is another one")
	}
}
