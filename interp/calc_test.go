package interp_test

import (
	"math"
	"slices"
	"testing"

	"strake/api"
	"strake/interp"
	"strake/ir"
	"strake/sample"
)

// numbers are some at which calculating may turn, and some that follow no plain order.
func numbers() []int {
	all := append(sample.Edges(), -65, -64, -63, 10, 62, 66, 127, 128, 1<<31, 1<<32, -1<<32, 1<<62, -1<<62, 3037000500, 0x5555555555555555)
	next := sample.Numbering(6)
	for range 12 {
		all = append(all, next(1<<24)<<40^next(1<<24)<<20^next(1<<24))
	}
	return all
}

// eachPure shows see each pure operation with many arguments.
func eachPure(see func(op int, args []int)) {
	for op := api.OpAdd; op <= api.OpSelect; op++ {
		_, takes, _ := ir.Args(op)
		for _, a := range numbers() {
			if len(takes) == 1 {
				see(op, []int{a})
				continue
			}
			for _, b := range numbers() {
				if len(takes) == 2 {
					see(op, []int{a, b})
					continue
				}
				see(op, []int{a, b, 11})
				see(op, []int{a, 12, b})
			}
		}
	}
}

func wantCalc(t *testing.T, op int, args []int, want int, e api.Errno) {
	t.Helper()
	if got, gotE := interp.Calc(op, args...); got != want || gotE != e {
		t.Errorf("Calc(%d, %v): %d, %d, want %d, %d", op, args, got, gotE, want, e)
	}
}

func TestCalc(t *testing.T) {
	const least = math.MinInt
	for _, c := range []struct {
		op   int
		args []int
		want int
	}{
		{api.OpAdd, []int{math.MaxInt, 1}, least}, {api.OpAdd, []int{least, least}, 0}, {api.OpAdd, []int{2, -5}, -3},
		{api.OpSub, []int{least, 1}, math.MaxInt}, {api.OpSub, []int{0, least}, least}, {api.OpSub, []int{2, 5}, -3},
		{api.OpMul, []int{1 << 32, 1 << 32}, 0}, {api.OpMul, []int{least, -1}, least}, {api.OpMul, []int{-3, 7}, -21},
		{api.OpAnd, []int{12, 10}, 8}, {api.OpAnd, []int{-1, least}, least},
		{api.OpOr, []int{12, 10}, 14}, {api.OpOr, []int{least, 1}, least + 1},
		{api.OpXor, []int{12, 10}, 6}, {api.OpXor, []int{-1, 0}, -1},
		{api.OpShl, []int{3, 4}, 48}, {api.OpShl, []int{1, 63}, least}, {api.OpShl, []int{5, 64}, 5}, {api.OpShl, []int{1, -1}, least}, {api.OpShl, []int{7, least}, 7},
		{api.OpShr, []int{-1, 1}, math.MaxInt}, {api.OpShr, []int{least, 63}, 1}, {api.OpShr, []int{-7, 0}, -7}, {api.OpShr, []int{48, 68}, 3}, {api.OpShr, []int{-1, -1}, 1},
		{api.OpDiv, []int{7, 2}, 3}, {api.OpDiv, []int{-7, 2}, -3}, {api.OpDiv, []int{7, -2}, -3}, {api.OpDiv, []int{-7, -2}, 3}, {api.OpDiv, []int{least, -1}, least}, {api.OpDiv, []int{0, 5}, 0},
		{api.OpRem, []int{7, 2}, 1}, {api.OpRem, []int{-7, 2}, -1}, {api.OpRem, []int{7, -2}, 1}, {api.OpRem, []int{-7, -2}, -1}, {api.OpRem, []int{least, -1}, 0},
		{api.OpEq, []int{5, 5}, 1}, {api.OpEq, []int{5, -5}, 0},
		{api.OpLt, []int{-1, 0}, 1}, {api.OpLt, []int{0, 0}, 0}, {api.OpLt, []int{math.MaxInt, least}, 0}, {api.OpLt, []int{least, math.MaxInt}, 1},
		{api.OpBelow, []int{-1, 0}, 0}, {api.OpBelow, []int{0, 0}, 0}, {api.OpBelow, []int{math.MaxInt, least}, 1}, {api.OpBelow, []int{least, -1}, 1},
		{api.OpNot, []int{0}, 1}, {api.OpNot, []int{1}, 0}, {api.OpNot, []int{2}, 0}, {api.OpNot, []int{-1}, 0}, {api.OpNot, []int{least}, 0},
		{api.OpSelect, []int{1, 8, 9}, 8}, {api.OpSelect, []int{0, 8, 9}, 9}, {api.OpSelect, []int{2, 8, 9}, 8}, {api.OpSelect, []int{-1, 8, 9}, 8}, {api.OpSelect, []int{least, 8, 9}, 8},
	} {
		wantCalc(t, c.op, c.args, c.want, api.OK)
	}
}

// TestCalcNumbers holds all pure operations against calculating with numbers of any size.
func TestCalcNumbers(t *testing.T) {
	eachPure(func(op int, args []int) {
		if want, ok := plainCalc(op, args); ok {
			wantCalc(t, op, args, want, api.OK)
		} else {
			wantCalc(t, op, args, 0, api.ErrNone)
		}
	})
}

func TestCalcByZero(t *testing.T) {
	for _, op := range []int{api.OpDiv, api.OpRem} {
		for _, n := range numbers() {
			wantCalc(t, op, []int{n, 0}, 0, api.ErrNone)
		}
		// That it is another call altogether comes ahead of what it divides by.
		wantCalc(t, op, []int{0}, 0, api.ErrArg)
		wantCalc(t, op, []int{1, 0, 0}, 0, api.ErrArg)
	}
}

// TestCalcOther: operations that are not pure, or none, whatever they are asked for, and wrong numbers of arguments.
func TestCalcOther(t *testing.T) {
	ops := append(sample.Edges(), 10, 11, 12, 13, 14, 15, 16, 17, 18, 19, 20, 21, 22, 23, 24, 25, 26)
	for _, op := range ops {
		_, takes, _ := ir.Args(op)
		pure := op >= api.OpAdd && op <= api.OpSelect
		for _, n := range []int{0, 1, 2, 3, 4, 5, 17, 1000} {
			args := slices.Repeat([]int{1}, n)
			if pure && n == len(takes) {
				if _, e := interp.Calc(op, args...); e != api.OK {
					t.Errorf("Calc(%d, %v): error %d", op, args, e)
				}
				continue
			}
			wantCalc(t, op, args, 0, api.ErrArg)
		}
		wantCalc(t, op, nil, 0, api.ErrArg)
	}
}

func TestCalcLeavesArguments(t *testing.T) {
	room := []int{6, 3, 2, 71, 72}
	for op := api.OpConst; op <= api.OpSet+1; op++ {
		for n := range 4 {
			interp.Calc(op, room[:n]...)
			if !slices.Equal(room, []int{6, 3, 2, 71, 72}) {
				t.Fatalf("Calc(%d) of %d numbers changes them to %v", op, n, room)
			}
		}
	}
}

// TestRunCalculates: a run makes of its values what Calc does.
func TestRunCalculates(t *testing.T) {
	eachPure(func(op int, args []int) {
		_, takes, _ := ir.Args(op)
		f := api.Func{Params: takes, Blocks: []api.Block{{
			Code: []api.Instr{{Op: op, Id: 3, Args: []int{0, 1, 2}[:len(takes)]}},
			Term: sample.Return(3),
		}}}
		want := api.Trace{End: api.Trapped, Trap: api.TrapZero, Steps: 1, Visits: []int{1}}
		if made, e := interp.Calc(op, args...); e == api.OK {
			want = api.Trace{End: api.Returned, Value: made, Steps: 2, Visits: []int{1}}
		}
		wantRun(t, "an operation", f, api.Input{Args: args}, 2, want)
	})
}
