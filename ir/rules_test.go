package ir_test

import (
	"fmt"
	"math"
	"reflect"
	"slices"
	"testing"

	"strake/api"
	"strake/ir"
)

// askAll makes every call, and holds them against each other: all answer the error of Check.
func askAll(t *testing.T, what string, f api.Func) {
	t.Helper()
	defer func() {
		if r := recover(); r != nil {
			t.Errorf("%s: panic: %v", what, r)
		}
	}()
	e := ir.Check(f)
	if e != api.OK {
		if !slices.Contains([]api.Errno{api.ErrForm, api.ErrUse, api.ErrType}, e) {
			t.Errorf("%s: error %d", what, e)
		}
		for _, id := range []int{math.MinInt, -1, 0, 3, math.MaxInt} {
			wantTells(t, f, id, e)
		}
		return
	}
	ids, e := ir.Ids(f)
	if e != api.OK || !slices.IsSorted(ids) || len(slices.Compact(slices.Clone(ids))) != len(ids) {
		t.Errorf("%s: Ids: %v, %d", what, ids, e)
	}
	for _, id := range ids {
		if typ, e := ir.TypeOf(f, id); typ != api.Int && typ != api.Bool || e != api.OK {
			t.Errorf("%s: TypeOf(%d): %d, %d", what, id, typ, e)
		}
		if n, e := ir.Uses(f, id); n < 0 || e != api.OK {
			t.Errorf("%s: Uses(%d): %d, %d", what, id, n, e)
		}
	}
	if n, e := ir.Size(f); n < 1 || e != api.OK {
		t.Errorf("%s: Size: %d, %d", what, n, e)
	}
}

// places gathers all numbers and all lists of a function, at all depths.
func places(v reflect.Value, numbers, lists *[]reflect.Value) {
	switch v.Kind() {
	case reflect.Int:
		*numbers = append(*numbers, v)
	case reflect.Struct:
		for i := range v.NumField() {
			places(v.Field(i), numbers, lists)
		}
	case reflect.Slice:
		*lists = append(*lists, v)
		for i := range v.Len() {
			places(v.Index(i), numbers, lists)
		}
	}
}

// TestAnyArgument puts every edge into every number, and leaves out, cuts, doubles and swells every list (R1).
func TestAnyArgument(t *testing.T) {
	askAll(t, "nothing", api.Func{})
	f := rich()
	var numbers, lists []reflect.Value
	places(reflect.ValueOf(&f).Elem(), &numbers, &lists)
	for i, v := range numbers {
		was := v.Int()
		for _, n := range edges() {
			v.SetInt(int64(n))
			askAll(t, fmt.Sprint("number ", i, " is ", n), f)
		}
		v.SetInt(was)
	}
	for i, v := range lists {
		was := reflect.ValueOf(v.Interface())
		n := was.Len()
		turns := []reflect.Value{reflect.Zero(v.Type()), reflect.MakeSlice(v.Type(), 0, 0), reflect.AppendSlice(was.Slice3(0, n, n), was), reflect.MakeSlice(v.Type(), 6000, 6000)}
		if n > 0 {
			turns = append(turns, was.Slice(1, n), was.Slice(0, n-1))
		}
		for k, turned := range turns {
			v.Set(turned)
			askAll(t, fmt.Sprint("list ", i, " turned by ", k), f)
		}
		v.Set(was)
	}
	if !reflect.DeepEqual(f, rich()) {
		t.Error("the function was not put back")
	}
}

// roomy is a list with spare room that holds something; all that a call answers of rich would fit into it.
func roomy[T any](list []T, spare T) []T {
	all := append([]T{}, list...)
	for range 40 {
		all = append(all, spare)
	}
	return all[:len(list)]
}

// roomyRich has spare room in each of its lists.
func roomyRich() api.Func {
	f := rich()
	for i := range f.Blocks {
		b := &f.Blocks[i]
		for k := range b.Phis {
			b.Phis[k].From, b.Phis[k].Vals = roomy(b.Phis[k].From, 71), roomy(b.Phis[k].Vals, 72)
		}
		for k := range b.Code {
			b.Code[k].Args = roomy(b.Code[k].Args, 73)
		}
		b.Phis, b.Code = roomy(b.Phis, api.Phi{Id: 74}), roomy(b.Code, api.Instr{Id: 75})
		b.Term.To = roomy(b.Term.To, 76)
	}
	f.Params, f.Blocks = roomy(f.Params, 77), roomy(f.Blocks, api.Block{Term: trap(78)})
	return f
}

// widened shows all that a function's memory holds, spare room included.
func widened(v reflect.Value) string {
	switch v.Kind() {
	case reflect.Struct:
		s := "{"
		for i := range v.NumField() {
			s += widened(v.Field(i)) + " "
		}
		return s + "}"
	case reflect.Slice:
		s := fmt.Sprint("[", v.Len(), ":")
		for i := range v.Cap() {
			s += widened(v.Slice(0, v.Cap()).Index(i)) + " "
		}
		return s + "]"
	}
	return fmt.Sprint(v.Interface())
}

// TestHandedInStays: no call changes what it is given, spare room of its lists included (R4).
func TestHandedInStays(t *testing.T) {
	for what, change := range map[string]func(f *api.Func){
		"right":        func(f *api.Func) {},
		"not formed":   func(f *api.Func) { f.Blocks[6].Term.N = 1 },
		"no value":     func(f *api.Func) { f.Blocks[6].Term.Val = 99 },
		"a wrong type": func(f *api.Func) { f.Blocks[3].Term.Val = 0 },
	} {
		f := roomyRich()
		change(&f)
		before := widened(reflect.ValueOf(f))
		askAll(t, what, f)
		ir.TypeOf(f, 3)
		ir.Uses(f, 3)
		if widened(reflect.ValueOf(f)) != before {
			t.Errorf("%s: what was handed in is changed", what)
		}
	}
}

// fill writes over a whole list, spare room included.
func fill(list []int, n int) {
	list = list[:cap(list)]
	for i := range list {
		list[i] = n
	}
}

// TestIdsAreNewMemory: writing over an answer changes neither the function nor another answer (R4).
func TestIdsAreNewMemory(t *testing.T) {
	f := roomyRich()
	before := widened(reflect.ValueOf(f))
	first, _ := ir.Ids(f)
	second, _ := ir.Ids(f)
	want := slices.Clone(second)
	fill(first, 12345)
	if !slices.Equal(second, want) || widened(reflect.ValueOf(f)) != before {
		t.Error("an answer of Ids is shared")
	}
	if third, _ := ir.Ids(f); !slices.Equal(third, want) {
		t.Errorf("Ids, once more: %v", third)
	}
}

// TestArgsAreNewMemory: a list that Args has given out is the caller's to write over (R4).
func TestArgsAreNewMemory(t *testing.T) {
	for op := api.OpConst; op <= api.OpSet; op++ {
		_, first, _ := ir.Args(op)
		_, second, _ := ir.Args(op)
		want := slices.Clone(second)
		fill(first, 12345)
		if _, third, _ := ir.Args(op); !slices.Equal(second, want) || !slices.Equal(third, want) {
			t.Errorf("Args(%d): an answer is shared", op)
		}
	}
	wantCheck(t, "rich, behind it", rich(), api.OK)
}

// TestNothingIsKept: what was asked ahead does not matter, nor what becomes of a function behind a call (R4, R5).
func TestNothingIsKept(t *testing.T) {
	f, bad := rich(), rich()
	bad.Blocks[6].Term.Val = 99
	for range 3 {
		askAll(t, "right", f)
		wantCheck(t, "right", f, api.OK)
		wantCheck(t, "wrong", bad, api.ErrUse)
		wantCheck(t, "bare", bare(), api.OK)
		if ids, e := ir.Ids(bare()); len(ids) != 0 || e != api.OK {
			t.Errorf("Ids of bare: %v, %d", ids, e)
		}
	}
	f.Blocks[2].Code[0].Op = api.OpLt
	wantCheck(t, "changed in place", f, api.ErrType)
	f.Blocks[2].Code[0].Op = api.OpSub
	wantCheck(t, "changed back", f, api.OK)
}
