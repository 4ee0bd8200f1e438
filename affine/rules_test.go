package affine_test

import (
	"fmt"
	"math"
	"slices"
	"testing"

	"strake/affine"
	"strake/api"
	"strake/ir"
	"strake/sample"
	"strake/strict"
)

// wantErrors asks Of for an error, whatever the value.
func wantErrors(t *testing.T, what string, f api.Func, want api.Errno) {
	t.Helper()
	for _, id := range []int{math.MinInt, -1, 0, 1, 2, 25, 26, 999, math.MaxInt} {
		wantOf(t, what, f, id, api.Sum{}, want)
	}
}

// TestTellsErrors: Of answers strict.Check's error, ahead of its own.
func TestTellsErrors(t *testing.T) {
	sample.Wrong(func(what string, f api.Func, want api.Errno) { wantErrors(t, what, f, want) })
	sample.Loose(func(what string, f api.Func, _ int, want api.Errno) { wantErrors(t, what, f, want) })
	// Here a value is the sum of itself.
	around := line(2)
	add(around, api.OpAdd, 2, 0, 3)
	add(around, api.OpSub, 3, 2, 1)
	wantErrors(t, "values that use one another", around, api.ErrUse)
}

// askAll asks Of for all values, and holds the answers against the plain words.
func askAll(t *testing.T, what string, f api.Func) {
	t.Helper()
	refused := func(e api.Errno) { wantErrors(t, what, f, e) }
	sample.AskStrict(t, what, f, refused, func() { wantPlain(t, what, f) })
}

// TestAnyFunction has functions with all that is around a strict one, and around others (R1).
func TestAnyFunction(t *testing.T) {
	sample.AskTurns(t, []api.Func{sample.Whole(), sample.Rich()}, func(what string, f api.Func) { askAll(t, what, f) })
}

// call is a call that answers a sum, of sums and a number.
type call struct {
	name string
	of   func(a, b api.Sum, k int) (api.Sum, api.Errno)
}

func calls() []call {
	return []call{
		{"Norm", func(a, b api.Sum, k int) (api.Sum, api.Errno) { return affine.Norm(a) }},
		{"Add of one", func(a, b api.Sum, k int) (api.Sum, api.Errno) { return affine.Add(a) }},
		{"Add", func(a, b api.Sum, k int) (api.Sum, api.Errno) { return affine.Add(a, b) }},
		{"Add of many", func(a, b api.Sum, k int) (api.Sum, api.Errno) { return affine.Add(a, a, b, api.Sum{}, a) }},
		{"Scale", func(a, b api.Sum, k int) (api.Sum, api.Errno) { return affine.Scale(a, k) }},
		{"Scale by 1", func(a, b api.Sum, k int) (api.Sum, api.Errno) { return affine.Scale(a, 1) }},
	}
}

// eachCall shows see all that comes of two sums and a number.
func eachCall(t *testing.T, what string, a, b api.Sum, k int, see func(what string, got api.Sum, e api.Errno)) {
	t.Helper()
	for _, c := range calls() {
		func() {
			defer func() {
				if r := recover(); r != nil {
					t.Errorf("%s, %s: panic: %v", what, c.name, r)
				}
			}()
			got, e := c.of(a, b, k)
			see(what+", "+c.name, got, e)
		}()
	}
}

// wantNormal asks for a normal sum, or for nothing beside ErrArg (R3).
func wantNormal(t *testing.T, what string, got api.Sum, e api.Errno) {
	t.Helper()
	if e != api.OK {
		wantSum(t, what, got, e, api.Sum{}, api.ErrArg)
		return
	}
	last := -1
	for _, p := range got.Parts {
		if p.Id <= last || p.Coef == 0 {
			t.Errorf("%s: %v is not normal", what, got)
		}
		last = p.Id
	}
	if len(got.Parts) > api.MaxTerms {
		t.Errorf("%s: %d parts", what, len(got.Parts))
	}
}

// TestAnySum has sums of each edge (R1).
func TestAnySum(t *testing.T) {
	edges := sample.Edges()
	for i, id := range edges {
		for k, coef := range edges {
			a := sumOf(edges[(i+k)%len(edges)], id, coef, edges[(3*i+k)%len(edges)], edges[(i+5*k)%len(edges)], id, coef)
			eachCall(t, fmt.Sprint("edges ", i, ", ", k), a, sumOf(coef, 3, id), coef, func(what string, got api.Sum, e api.Errno) {
				wantNormal(t, what, got, e)
			})
			n, e := affine.At(a, []int{id, 3}, []int{coef, id})
			if e != api.OK && n != 0 {
				t.Errorf("At(%v): %d, %d", a, n, e)
			}
		}
	}
}

// TestHugeSum has as many parts as make a list of some megabytes.
func TestHugeSum(t *testing.T) {
	huge := api.Sum{Const: 1, Parts: make([]api.Part, 1<<20)}
	for i := range huge.Parts {
		huge.Parts[i] = api.Part{Id: i % 64, Coef: i}
	}
	eachCall(t, "of 64 values", huge, sumOf(1), 3, func(what string, got api.Sum, e api.Errno) {
		if wantNormal(t, what, got, e); e != api.OK {
			t.Errorf("%s: error %d", what, e)
		}
	})
	huge.Parts[len(huge.Parts)-1].Id = 64
	eachCall(t, "of 65 values", huge, sumOf(1), 3, func(what string, got api.Sum, e api.Errno) {
		wantSum(t, what, got, e, api.Sum{}, api.ErrArg)
	})
}

// withRoom is a copy with spare room that holds something.
func withRoom(s api.Sum) api.Sum {
	s.Parts = append(slices.Clone(s.Parts), slices.Repeat([]api.Part{{Id: 71, Coef: 72}}, 90)...)[:len(s.Parts)]
	return s
}

func memory(all ...api.Sum) string {
	told := ""
	for _, s := range all {
		told += fmt.Sprint(s.Const, len(s.Parts), s.Parts[:cap(s.Parts)])
	}
	return told
}

func writeOver(s api.Sum) {
	all := s.Parts[:cap(s.Parts)]
	for i := range all {
		all[i] = api.Part{Id: 12345, Coef: 54321}
	}
}

// TestSumsStay: no call changes what it is given, spare room included, and no answer shares memory with it (R4).
func TestSumsStay(t *testing.T) {
	all := sums()
	for i, s := range all {
		a, b := withRoom(s), withRoom(all[(i+7)%len(all)])
		before := memory(a, b)
		eachCall(t, fmt.Sprint("sum ", i), a, b, 3, func(what string, got api.Sum, e api.Errno) {
			if memory(a, b) != before {
				t.Fatalf("%s: what was handed in is changed", what)
			}
			writeOver(got)
			if memory(a, b) != before {
				t.Fatalf("%s: what is answered shares memory with what was handed in", what)
			}
		})
		list := []api.Sum{a, b, a, sumOf(74)}
		affine.Add(list[:2]...)
		affine.Add(list[:0]...)
		if memory(a, b) != before || memory(list...) != memory(a, b, a, sumOf(74)) {
			t.Fatalf("sum %d: what was handed in is changed", i)
		}
		ids, vals := []int{5, 3, 1, 0, 2, 4, 9, 9}, []int{1, 2, 3, 4, 5, 6, 7, 8}
		affine.At(a, ids[:6], vals[:6])
		affine.At(a, ids, vals)
		if memory(a) != memory(withRoom(s)) || !slices.Equal(ids, []int{5, 3, 1, 0, 2, 4, 9, 9}) || !slices.Equal(vals, []int{1, 2, 3, 4, 5, 6, 7, 8}) {
			t.Fatalf("sum %d: what was handed in is changed by At", i)
		}
	}
}

// TestFunctionStays: Of does not change what it is given, spare room of its lists included (R4).
func TestFunctionStays(t *testing.T) {
	ask := func(what string, f api.Func) {
		sample.Stays(t, what, f, func(what string, f api.Func) { askAll(t, what, f) })
	}
	ask("nothing", api.Func{})
	ask("whole", sample.Whole())
	ask("rich", sample.Rich())
	ask("wide", wide(70, 6))
	for seed := range 40 {
		ask(fmt.Sprint("summing ", seed), summing(50, seed))
		ask(fmt.Sprint("busy ", seed), sample.Busy(2+seed, seed))
	}
}

// TestAnswersAreNewMemory: writing over an answer changes no other one (R4, R5).
func TestAnswersAreNewMemory(t *testing.T) {
	for i, s := range sums() {
		var answers []api.Sum
		for range 2 {
			eachCall(t, fmt.Sprint("sum ", i), s, sumOf(2, 3, 4), 5, func(_ string, got api.Sum, _ api.Errno) { answers = append(answers, got) })
		}
		wantApart(t, fmt.Sprint("sum ", i), answers)
	}
	for seed := range 40 {
		f := summing(60, seed)
		ids, _ := ir.Ids(f)
		var answers []api.Sum
		for range 2 {
			for _, id := range ids {
				s, _ := affine.Of(f, id)
				answers = append(answers, s)
			}
		}
		wantApart(t, fmt.Sprint("summing ", seed), answers)
	}
}

func wantApart(t *testing.T, what string, answers []api.Sum) {
	t.Helper()
	mark := 0
	for _, s := range answers {
		for i := range s.Parts[:cap(s.Parts)] {
			mark++
			s.Parts[:cap(s.Parts)][i].Id = mark
		}
	}
	mark = 0
	for _, s := range answers {
		for _, p := range s.Parts[:cap(s.Parts)] {
			if mark++; p.Id != mark {
				t.Errorf("%s: answers share memory", what)
				return
			}
		}
	}
}

// TestNothingIsKept: what was asked ahead does not matter, nor what becomes of a function or a sum behind a call (R5).
func TestNothingIsKept(t *testing.T) {
	f := sample.Whole()
	s := sumOf(3, 5, 1, 2, 4)
	for range 3 {
		wantOf(t, "whole", f, 4, sumOf(7, 0, 1), api.OK)
		wantOf(t, "whole", f, 25, sumOf(0, 23, 2), api.OK)
		wantErrors(t, "nothing", api.Func{}, api.ErrForm)
		askAll(t, "wide", wide(70, 6))
		f.Blocks[0].Code[0].N = 8
		wantOf(t, "whole, with another number", f, 4, sumOf(8, 0, 1), api.OK)
		f.Blocks[2].Code[0].Op = api.OpSub
		wantOf(t, "whole, with another operation", f, 25, sumOf(0), api.OK)
		f.Blocks[0].Code[0].N, f.Blocks[2].Code[0].Op = 7, api.OpAdd
		got, e := affine.Norm(s)
		wantSum(t, "a sum", got, e, sumOf(3, 2, 4, 5, 1), api.OK)
		writeOver(got)
		s.Parts[0].Coef = 9
		got, e = affine.Norm(s)
		wantSum(t, "a sum, changed in place", got, e, sumOf(3, 2, 4, 5, 9), api.OK)
		s.Parts[0].Coef = 1
		wantAt(t, s, []int{2, 5}, []int{1, 10}, 17, api.OK)
		wantAt(t, s, []int{2}, []int{1}, 0, api.ErrNone)
	}
	if _, e := strict.Check(f); e != api.OK || !sample.Same(f, sample.Whole()) {
		t.Error("the function is another one")
	}
}
