package ir_test

import (
	"math"
	"slices"
	"testing"

	"strake/api"
	"strake/ir"
	"strake/sample"
)

// askAll makes every call, and holds them against each other: all answer the error of Check.
func askAll(t *testing.T, what string, f api.Func) {
	t.Helper()
	defer func() {
		if r := recover(); r != nil {
			t.Errorf("%s: panic: %v", what, r)
		}
	}()
	e := ir.Check(f)
	if e != api.OK {
		if !slices.Contains([]api.Errno{api.ErrForm, api.ErrUse, api.ErrType}, e) {
			t.Errorf("%s: error %d", what, e)
		}
		for _, id := range []int{math.MinInt, -1, 0, 3, math.MaxInt} {
			wantTells(t, f, id, e)
		}
		return
	}
	ids, e := ir.Ids(f)
	if e != api.OK || !slices.IsSorted(ids) || len(slices.Compact(slices.Clone(ids))) != len(ids) {
		t.Errorf("%s: Ids: %v, %d", what, ids, e)
	}
	for _, id := range ids {
		if typ, e := ir.TypeOf(f, id); typ != api.Int && typ != api.Bool || e != api.OK {
			t.Errorf("%s: TypeOf(%d): %d, %d", what, id, typ, e)
		}
		if n, e := ir.Uses(f, id); n < 0 || e != api.OK {
			t.Errorf("%s: Uses(%d): %d, %d", what, id, n, e)
		}
	}
	if n, e := ir.Size(f); n < 1 || e != api.OK {
		t.Errorf("%s: Size: %d, %d", what, n, e)
	}
}

// TestAnyArgument puts every edge into every number, and leaves out, cuts, doubles and swells every list (R1).
func TestAnyArgument(t *testing.T) {
	askAll(t, "nothing", api.Func{})
	sample.Turns(sample.Rich(), func(what string, f api.Func) { askAll(t, what, f) })
}

// TestHandedInStays: no call changes what it is given, spare room of its lists included (R4).
func TestHandedInStays(t *testing.T) {
	for what, change := range map[string]func(f *api.Func){
		"right":        func(f *api.Func) {},
		"not formed":   func(f *api.Func) { f.Blocks[6].Term.N = 1 },
		"no value":     func(f *api.Func) { f.Blocks[6].Term.Val = 99 },
		"a wrong type": func(f *api.Func) { f.Blocks[3].Term.Val = 0 },
	} {
		f := sample.Roomy(sample.Rich())
		change(&f)
		before := sample.Memory(f)
		askAll(t, what, f)
		ir.TypeOf(f, 3)
		ir.Uses(f, 3)
		if sample.Memory(f) != before {
			t.Errorf("%s: what was handed in is changed", what)
		}
	}
}

// fill writes over a whole list, spare room included.
func fill(list []int, n int) {
	list = list[:cap(list)]
	for i := range list {
		list[i] = n
	}
}

// TestIdsAreNewMemory: writing over an answer changes neither the function nor another answer (R4).
func TestIdsAreNewMemory(t *testing.T) {
	f := sample.Roomy(sample.Rich())
	before := sample.Memory(f)
	first, _ := ir.Ids(f)
	second, _ := ir.Ids(f)
	want := slices.Clone(second)
	fill(first, 12345)
	if !slices.Equal(second, want) || sample.Memory(f) != before {
		t.Error("an answer of Ids is shared")
	}
	if third, _ := ir.Ids(f); !slices.Equal(third, want) {
		t.Errorf("Ids, once more: %v", third)
	}
}

// TestArgsAreNewMemory: a list that Args has given out is the caller's to write over (R4).
func TestArgsAreNewMemory(t *testing.T) {
	for op := api.OpConst; op <= api.OpSet; op++ {
		_, first, _ := ir.Args(op)
		_, second, _ := ir.Args(op)
		want := slices.Clone(second)
		fill(first, 12345)
		if _, third, _ := ir.Args(op); !slices.Equal(second, want) || !slices.Equal(third, want) {
			t.Errorf("Args(%d): an answer is shared", op)
		}
	}
	wantCheck(t, "rich, behind it", sample.Rich(), api.OK)
}

// TestNothingIsKept: what was asked ahead does not matter, nor what becomes of a function behind a call (R4, R5).
func TestNothingIsKept(t *testing.T) {
	f, bad := sample.Rich(), sample.Rich()
	bad.Blocks[6].Term.Val = 99
	for range 3 {
		askAll(t, "right", f)
		wantCheck(t, "right", f, api.OK)
		wantCheck(t, "wrong", bad, api.ErrUse)
		wantCheck(t, "bare", sample.Bare(), api.OK)
		if ids, e := ir.Ids(sample.Bare()); len(ids) != 0 || e != api.OK {
			t.Errorf("Ids of bare: %v, %d", ids, e)
		}
	}
	f.Blocks[2].Code[0].Op = api.OpLt
	wantCheck(t, "changed in place", f, api.ErrType)
	f.Blocks[2].Code[0].Op = api.OpSub
	wantCheck(t, "changed back", f, api.OK)
}
