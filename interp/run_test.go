package interp_test

import (
	"fmt"
	"math"
	"slices"
	"testing"

	"strake/api"
	"strake/interp"
	"strake/sample"
)

func TestRunGoesAround(t *testing.T) {
	f := sum(t)
	for n, want := range map[int]int{-1: 0, 0: 0, 1: 0, 2: 1, 4: 6, 11: 55} {
		rounds := max(n, 0)
		wantRun(t, fmt.Sprint("a sum of ", n), f, api.Input{Args: []int{n}}, 1000, api.Trace{
			End: api.Returned, Value: want, Steps: 3 + 2*(rounds+1) + 3*rounds + 1, Visits: []int{1, rounds + 1, rounds, 1},
		})
	}
}

func TestArgs(t *testing.T) {
	for _, c := range []struct {
		typ  string
		args []int
		want int
	}{
		{"int", nil, 0}, {"int", []int{}, 0}, {"int", []int{7}, 7}, {"int", []int{7, 8}, 7}, {"int", []int{math.MinInt}, math.MinInt},
		{"bool", nil, 0}, {"bool", []int{0}, 0}, {"bool", []int{1}, 1}, {"bool", []int{2}, 1}, {"bool", []int{-1, 0}, 1}, {"bool", []int{math.MinInt}, 1},
	} {
		f := sample.Read(t, "func "+c.typ+" arrays 0 cells 0", "b0:", "return v0")
		wantRun(t, fmt.Sprint(c.typ, c.args), f, api.Input{Args: c.args}, 1, api.Trace{End: api.Returned, Value: c.want, Steps: 1, Visits: []int{1}})
	}
	f := sample.Read(t, "func bool int bool arrays 0 cells 0", "b0:", "v3 = const 9", "v4 = select v2 v1 v3", "branch v0 b1 b2", "b1:", "return v4", "b2:", "trap 3")
	wantRun(t, "flags that are not 0", f, api.Input{Args: []int{-4, 5, 6}}, 9, api.Trace{End: api.Returned, Value: 5, Steps: 4, Visits: []int{1, 1, 0}})
	wantRun(t, "the last ones missing", f, api.Input{Args: []int{8, 5}}, 9, api.Trace{End: api.Returned, Value: 9, Steps: 4, Visits: []int{1, 1, 0}})
	wantRun(t, "all missing", f, api.Input{}, 9, api.Trace{End: api.Trapped, Trap: 3, Steps: 4, Visits: []int{1, 0, 1}})
}

func TestBranch(t *testing.T) {
	f := sample.Flagged(t, "b0:", "branch v0 b2 b1", "b1:", "trap 1", "b2:", "trap 2")
	wantRun(t, "yes", f, api.Input{Args: []int{1}}, 9, api.Trace{End: api.Trapped, Trap: 2, Steps: 2, Visits: []int{1, 0, 1}})
	wantRun(t, "no", f, api.Input{Args: []int{0}}, 9, api.Trace{End: api.Trapped, Trap: 1, Steps: 2, Visits: []int{1, 1, 0}})
	f = sample.Flagged(t, "b0:", "branch v0 b1 b1", "b1:", "v1 = phi bool b0 v0", "return v1")
	for flag := range 2 {
		wantRun(t, "to one block", f, api.Input{Args: []int{flag}}, 9, api.Trace{End: api.Returned, Value: flag, Steps: 2, Visits: []int{1, 1}})
	}
}

// TestPhisAtOneTime turns three numbers round, against the order of the phis, and with it.
func TestPhisAtOneTime(t *testing.T) {
	for _, phis := range [][]string{
		{"v5 = phi int b0 v0 b1 v6", "v6 = phi int b1 v7 b0 v1", "v7 = phi int b0 v2 b1 v5"},
		{"v7 = phi int b0 v2 b1 v5", "v6 = phi int b0 v1 b1 v7", "v5 = phi int b1 v6 b0 v0"},
	} {
		lines := append([]string{"func int int int arrays 0 cells 0", "b0:", "v3 = const 1", "v4 = const 4", "jump b1", "b1:", "v8 = phi int b0 v3 b1 v9"}, phis...)
		f := sample.Read(t, append(lines, "v9 = add v8 v3", "out v5", "out v6", "out v7", "v10 = lt v8 v4", "branch v10 b1 b2", "b2:", "return v6")...)
		wantRun(t, fmt.Sprint(phis), f, api.Input{Args: []int{10, 20, 30}}, 99, api.Trace{
			End: api.Returned, Value: 20, Steps: 3 + 4*6 + 1, Visits: []int{1, 4, 1},
			Out: []int{10, 20, 30, 20, 30, 10, 30, 10, 20, 10, 20, 30},
		})
	}
}

func TestPhisByWhereItWasComeFrom(t *testing.T) {
	f := sample.Read(t, "func bool bool arrays 0 cells 0", "b0:", "v2 = const 2", "branch v0 b1 b2",
		"b1:", "v3 = const 3", "branch v1 b2 b3", "b2:", "v4 = phi int b1 v3 b0 v2", "jump b3",
		"b3:", "v5 = phi int b2 v4 b1 v2", "return v5")
	for _, c := range []struct {
		args   []int
		want   int
		steps  int
		visits []int
	}{
		{[]int{0, 0}, 2, 4, []int{1, 0, 1, 1}}, {[]int{0, 1}, 2, 4, []int{1, 0, 1, 1}},
		{[]int{1, 0}, 2, 5, []int{1, 1, 0, 1}}, {[]int{1, 1}, 3, 6, []int{1, 1, 1, 1}},
	} {
		wantRun(t, fmt.Sprint(c.args), f, api.Input{Args: c.args}, 9, api.Trace{End: api.Returned, Value: c.want, Steps: c.steps, Visits: c.visits})
	}
}

func TestTrapBlocks(t *testing.T) {
	for _, n := range []int{0, 1, 4, math.MaxInt} {
		f := sample.Bare()
		f.Blocks[0].Term.N = n
		wantRun(t, fmt.Sprint("trap ", n), f, api.Input{}, 1, api.Trace{End: api.Trapped, Trap: n, Steps: 1, Visits: []int{1}})
	}
}

// TestTrapZero: what is told and written ahead of a division by 0 stays, and nothing behind it is done.
func TestTrapZero(t *testing.T) {
	for _, op := range []string{"div", "rem"} {
		f := sample.Read(t, "func int int arrays 1 cells 0", "b0:", "out v0", "v2 = "+op+" v0 v1", "out v2", "return v2")
		in := api.Input{Args: []int{9, 0}, Arrays: [][]int{{5}}}
		wantRun(t, op, f, in, 9, api.Trace{End: api.Trapped, Trap: api.TrapZero, Out: []int{9}, Arrays: [][]int{{5}}, Steps: 2, Visits: []int{1}})
	}
}

// TestBounds asks for elements at all edges of arrays of many lengths.
func TestBounds(t *testing.T) {
	for _, length := range []int{0, 1, 2, 3, api.MaxLen - 1, api.MaxLen} {
		array := make([]int, length)
		for i := range array {
			array[i] = 100 + i
		}
		for _, index := range []int{math.MinInt, -1 << 32, -2, -1, 0, 1, 2, 3, length - 2, length - 1, length, length + 1, 1 << 32, math.MaxInt} {
			wantElement(t, array, index)
		}
	}
}

// wantElement asks for one element by each of the four operations.
func wantElement(t *testing.T, array []int, index int) {
	t.Helper()
	for op, line := range map[int]string{
		api.OpLoad: "v2 = load 1 v0", api.OpFetch: "v2 = fetch 1 v0", api.OpStore: "store 1 v0 v1", api.OpPut: "put 1 v0 v1",
	} {
		want := api.Trace{End: api.Returned, Value: 7, Arrays: [][]int{{8}, slices.Clone(array)}, Steps: 2, Visits: []int{1}}
		makes, back := op == api.OpLoad || op == api.OpFetch, "return v1"
		if makes {
			back = "return v2"
		}
		if op == api.OpLoad || op == api.OpStore {
			want.Checks = 1
		}
		switch {
		case index >= 0 && index < len(array) && makes:
			want.Value = array[index]
		case index >= 0 && index < len(array):
			want.Arrays[1][index] = 7
		case want.Checks == 1:
			want.End, want.Value, want.Trap, want.Steps = api.Trapped, 0, api.TrapBounds, 1
		default:
			want.End, want.Value, want.Steps = api.Wild, 0, 1
		}
		f := sample.Read(t, "func int int arrays 2 cells 0", "b0:", line, back)
		in := api.Input{Args: []int{index, 7}, Arrays: [][]int{{8}, array}}
		wantRun(t, fmt.Sprint(line, ", v0 is ", index, ", ", len(array), " elements"), f, in, 2, want)
	}
}

func TestChecks(t *testing.T) {
	f := sample.Read(t, "func int arrays 2 cells 0", "b0:", "v1 = const 0", "v2 = const 1", "v3 = load 0 v1", "store 1 v2 v3", "v4 = fetch 1 v2",
		"put 0 v2 v4", "v5 = len 0", "store 0 v1 v5", "v6 = load 0 v2", "v7 = load 1 v0", "return v7")
	in := api.Input{Args: []int{1}, Arrays: [][]int{{6, 5, 4}, {3, 2}}}
	wantRun(t, "to the end", f, in, 99, api.Trace{End: api.Returned, Value: 6, Arrays: [][]int{{3, 6, 4}, {3, 6}}, Steps: 11, Checks: 5, Visits: []int{1}})
	wantRun(t, "not further", f, in, 4, api.Trace{End: api.NoFuel, Arrays: [][]int{{6, 5, 4}, {3, 6}}, Steps: 4, Checks: 2, Visits: []int{1}})
	in.Args[0] = 2
	wantRun(t, "to a trap", f, in, 99, api.Trace{End: api.Trapped, Trap: api.TrapBounds, Arrays: [][]int{{3, 6, 4}, {3, 6}}, Steps: 10, Checks: 5, Visits: []int{1}})
}

func TestCells(t *testing.T) {
	f := sample.Read(t, "func int arrays 0 cells 64", "b0:", "v1 = get 63", "out v1", "set 63 v0", "v2 = get 62", "out v2", "v3 = get 0", "out v3",
		"v4 = const 3", "set 0 v4", "v5 = get 63", "out v5", "v6 = get 0", "return v6")
	for range 2 {
		wantRun(t, "cells", f, api.Input{Args: []int{-8}}, 99, api.Trace{End: api.Returned, Value: 3, Out: []int{0, 0, 0, -8}, Steps: 13, Visits: []int{1}})
	}
}

func TestArrays(t *testing.T) {
	f := sample.Read(t, "func int arrays 3 cells 0", "b0:", "v1 = len 0", "v2 = len 1", "v3 = len 2", "out v1", "out v2", "out v3", "trap 0")
	list := make([]int, api.MaxLen+2000)
	for i := range list {
		list[i] = i - 9
	}
	for _, c := range []struct{ in, want [][]int }{
		{nil, [][]int{nil, nil, nil}},
		{[][]int{{1, 2}}, [][]int{{1, 2}, nil, nil}},
		{[][]int{nil, {}, {4}}, [][]int{nil, nil, {4}}},
		{[][]int{{1}, {2}, {3}, {4}, {5}}, [][]int{{1}, {2}, {3}}},
		{[][]int{list[:4095], list[:4096], list[:4097]}, [][]int{list[:4095], list[:4096], list[:4096]}},
		{[][]int{list, list[5:], nil}, [][]int{list[:4096], list[5:4101], nil}},
	} {
		out := []int{len(c.want[0]), len(c.want[1]), len(c.want[2])}
		wantRun(t, fmt.Sprint("lengths ", out), f, api.Input{Arrays: c.in}, 9, api.Trace{End: api.Trapped, Out: out, Arrays: c.want, Steps: 7, Visits: []int{1}})
	}
	one := []int{1, 2, 3}
	g := sample.Read(t, "func int arrays 2 cells 0", "b0:", "v1 = const 0", "store 0 v1 v0", "v2 = load 1 v1", "return v2")
	in := api.Input{Args: []int{9}, Arrays: [][]int{one, one}}
	wantRun(t, "one list for two arrays", g, in, 9, api.Trace{End: api.Returned, Value: 1, Arrays: [][]int{{9, 2, 3}, {1, 2, 3}}, Steps: 4, Checks: 2, Visits: []int{1}})
}

// TestOut tells as many numbers as there may be, and then one more.
func TestOut(t *testing.T) {
	lines := []string{"func int arrays 0 cells 0", "b0:", "v1 = const 1", "jump b1", "b1:", "v2 = phi int b0 v0 b1 v3", "out v2", "v3 = add v2 v1"}
	f := sample.Read(t, append(lines, "v4 = const 4096", "v5 = lt v3 v4", "branch v5 b1 b2", "b2:", "return v3")...)
	for first, want := range map[int]api.Trace{
		1:  {End: api.Returned, Value: 4096, Steps: 2 + 5*4095 + 1, Visits: []int{1, 4095, 1}},
		0:  {End: api.Returned, Value: 4096, Steps: 2 + 5*4096 + 1, Visits: []int{1, 4096, 1}},
		-1: {End: api.OutFull, Steps: 2 + 5*4096 + 1, Visits: []int{1, 4097, 0}},
		-9: {End: api.OutFull, Steps: 2 + 5*4096 + 1, Visits: []int{1, 4097, 0}},
	} {
		for n := first; n < min(first+4096, 4096); n++ {
			want.Out = append(want.Out, n)
		}
		wantRun(t, fmt.Sprint("from ", first), f, api.Input{Args: []int{first}}, math.MaxInt, want)
	}
}

func TestRefused(t *testing.T) {
	in := api.Input{Args: []int{1, 2}, Arrays: [][]int{{1}, {2}}}
	for _, fuel := range []int{math.MinInt, -200000, -1, 0, 1, 100, math.MaxInt} {
		sample.Wrong(func(what string, f api.Func, _ api.Errno) { wantRun(t, what, f, in, fuel, refused()) })
		sample.Loose(func(what string, f api.Func, _ int, _ api.Errno) { wantRun(t, what, f, in, fuel, refused()) })
		for _, f := range []api.Func{sample.Bare(), sample.Whole(), sum(t)} {
			if r := interp.Run(f, in, fuel); (r.End == api.Refused) != (fuel < 0) {
				t.Errorf("fuel %d: %+v", fuel, r)
			}
		}
		if fuel < 0 {
			wantRun(t, "no fuel", sample.Whole(), in, fuel, refused())
		}
	}
}

// TestBusy holds runs of seeded functions against the chapter's words.
func TestBusy(t *testing.T) {
	seen := map[int]int{}
	for seed := range 3000 {
		f := sample.Busy(2+seed%20, seed)
		for i, in := range sample.Inputs() {
			r := wantPlain(t, fmt.Sprintf("seed %d, input %d", seed, i), f, in, 400)
			seen[r.End]++
		}
	}
	for _, end := range []int{api.Returned, api.Trapped, api.NoFuel, api.Wild} {
		if seen[end] < 300 {
			t.Errorf("just %d runs end with %d", seen[end], end)
		}
	}
}
