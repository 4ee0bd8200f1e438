package interp_test

import (
	"fmt"
	"math"
	"slices"
	"testing"

	"strake/api"
	"strake/interp"
	"strake/sample"
	"strake/strict"
)

// askRun runs a function that may be none, and holds the answer against the chapter's words.
func askRun(t *testing.T, what string, f api.Func, in api.Input, fuel int) int {
	t.Helper()
	defer func() {
		if r := recover(); r != nil {
			t.Errorf("%s: panic: %v", what, r)
		}
	}()
	if _, e := strict.Check(f); e != api.OK || fuel < 0 {
		wantRun(t, what, f, in, fuel, refused())
		return api.Refused
	}
	return wantPlain(t, what, f, in, fuel).End
}

// wholeInput keeps Whole from trapping for a while.
func wholeInput() api.Input {
	return api.Input{Args: []int{2, 1, 9}, Arrays: [][]int{{4, 5, 6, 7, 8, 9, 10, 11}, {0, 1, 2, 3, 4, 5, 6, 7}, {99}}}
}

// TestAnyArgument has functions with all that is around a strict one, and around others (R1).
func TestAnyArgument(t *testing.T) {
	seen := map[int]int{}
	for _, f := range []api.Func{sample.Whole(), sample.Rich(), sample.Busy(9, 16)} {
		sample.Turns(f, func(what string, f api.Func) {
			seen[askRun(t, what, f, wholeInput(), 90)]++
			seen[askRun(t, what, f, api.Input{}, 90)]++
		})
	}
	for _, end := range []int{api.Returned, api.Trapped, api.NoFuel, api.Wild, api.Refused} {
		if seen[end] < 10 {
			t.Errorf("just %d runs end with %d", seen[end], end)
		}
	}
}

// TestAnyInput has all lists of an input of all lengths around those that the function takes, and all edges in them.
func TestAnyInput(t *testing.T) {
	f := sample.Whole()
	for _, edge := range sample.Edges() {
		for _, args := range [][]int{nil, {}, {edge}, {edge, edge}, {2, edge}, slices.Repeat([]int{edge}, 40)} {
			for _, array := range [][]int{nil, {}, {edge}, slices.Repeat([]int{edge}, 8), slices.Repeat([]int{edge}, 5000)} {
				for n := range 4 {
					in := api.Input{Args: args, Arrays: slices.Repeat([][]int{array}, n)}
					askRun(t, fmt.Sprintf("%d args, %d arrays of %d elements, of %d", len(args), n, len(array), edge), f, in, 60)
				}
			}
		}
	}
	for _, fuel := range sample.Edges() {
		askRun(t, "whole", f, wholeInput(), fuel)
		askRun(t, "nothing", api.Func{}, api.Input{}, fuel)
	}
}

// TestGreatFunctions are at the limits.
func TestGreatFunctions(t *testing.T) {
	line := sample.Line(api.MaxBlocks)
	wantRun(t, "a line", line, api.Input{}, 1000, api.Trace{End: api.Trapped, Steps: api.MaxBlocks, Visits: slices.Repeat([]int{1}, api.MaxBlocks)})

	f := api.Func{Cells: api.MaxCells, Arrays: api.MaxArrays, Blocks: []api.Block{{}}}
	in := api.Input{}
	for i := range api.MaxParams {
		f.Params, in.Args = append(f.Params, 1+i%2), append(in.Args, i)
	}
	for i := range api.MaxArrays {
		in.Arrays = append(in.Arrays, slices.Repeat([]int{i}, api.MaxLen))
	}
	code := &f.Blocks[0].Code
	for id := api.MaxId - api.MaxCode/2; len(*code) < api.MaxCode-2; id++ {
		*code = append(*code, api.Instr{Op: api.OpConst, Id: id, N: id}, api.Instr{Op: api.OpSet, Id: -1, Args: []int{id}, N: id % api.MaxCells})
	}
	*code = append(*code, api.Instr{Op: api.OpGet, Id: api.MaxId - 1, N: 5})
	f.Blocks[0].Term = sample.Return(api.MaxId - 1)
	if r := wantPlain(t, "a great block", f, in, math.MaxInt); r.End != api.Returned || r.Steps != api.MaxCode {
		t.Errorf("a great block: %+v", short(r))
	}
}

// roomy is a copy of an input with spare room in its lists that holds something.
func roomy(in api.Input) api.Input {
	list := func(all []int) []int { return append(slices.Clone(all), 71, 72, 73)[:len(all)] }
	out := api.Input{Args: list(in.Args)}
	for _, array := range in.Arrays {
		out.Arrays = append(out.Arrays, list(array))
	}
	out.Arrays = append(out.Arrays, []int{74}, []int{75})[:len(in.Arrays)]
	return out
}

// inputMemory is all that an input's lists hold, spare room included.
func inputMemory(in api.Input) string {
	all := [][]int{in.Args[:cap(in.Args)]}
	for _, array := range in.Arrays[:cap(in.Arrays)] {
		all = append(all, array[:cap(array)])
	}
	return fmt.Sprint(all, len(in.Args), len(in.Arrays))
}

// TestHandedInStays: no run changes what it is given, spare room of its lists included (R4).
func TestHandedInStays(t *testing.T) {
	for seed := range 300 {
		f := sample.Roomy(sample.Busy(2+seed%20, seed))
		before := sample.Memory(f)
		for _, in := range append(sample.Inputs(), wholeInput()) {
			in = roomy(in)
			was := inputMemory(in)
			r := interp.Run(f, in, 200)
			if inputMemory(in) != was || sample.Memory(f) != before {
				t.Fatalf("seed %d: what was handed in is changed", seed)
			}
			overwrite(r)
			if inputMemory(in) != was || sample.Memory(f) != before {
				t.Fatalf("seed %d: what is answered shares memory with what was handed in", seed)
			}
		}
	}
}

// overwrite writes over all that a trace's lists hold, spare room included.
func overwrite(r api.Trace) {
	for _, list := range lists(r) {
		list = list[:cap(list)]
		for i := range list {
			list[i] = 12345
		}
	}
	for i := range r.Arrays[:cap(r.Arrays)] {
		r.Arrays[:cap(r.Arrays)][i] = []int{12345}
	}
}

func lists(rs ...api.Trace) [][]int {
	var all [][]int
	for _, r := range rs {
		all = append(all, r.Out, r.Visits)
		all = append(all, r.Arrays...)
	}
	return all
}

// TestAnswersAreNewMemory: no two lists share any, of one answer or of two, however often one list was handed in (R4).
func TestAnswersAreNewMemory(t *testing.T) {
	f := sample.Read(t, "func int arrays 4 cells 0", "b0:", "out v0", "out v0", "out v0", "v1 = const 1", "store 0 v1 v0", "store 3 v1 v0", "return v1")
	list := make([]int, 4, 9)
	in := api.Input{Args: []int{6}, Arrays: [][]int{list, list[:2], list[:0], list[1:3]}}
	first, second := interp.Run(f, in, 99), interp.Run(f, in, 99)
	if first.End != api.Returned || !sameTrace(first, second) {
		t.Errorf("%+v, and then %+v", first, second)
	}
	if !sample.AloneLists(append(lists(first, second), list)) {
		t.Error("lists of answers share memory")
	}
	before := fmt.Sprint(second)
	overwrite(first)
	if fmt.Sprint(second) != before {
		t.Error("lists of lists of answers share memory")
	}
}

// TestNothingIsKept: what was run ahead does not matter, nor what becomes of a function or an answer behind it (R5).
func TestNothingIsKept(t *testing.T) {
	f, in := sample.Whole(), wholeInput()
	cells := sample.Read(t, "func arrays 0 cells 1", "b0:", "v0 = get 0", "v1 = const 7", "set 0 v1", "out v0", "return v0")
	want := interp.Run(f, in, 90)
	for range 3 {
		wantRun(t, "whole", f, in, 90, want)
		overwrite(interp.Run(f, in, 90))
		wantRun(t, "cells", cells, api.Input{}, 90, api.Trace{End: api.Returned, Out: []int{0}, Steps: 5, Visits: []int{1}})
		wantRun(t, "nothing", api.Func{}, in, 90, refused())
		f.Blocks[0].Code[0].N = 1
		wantPlain(t, "whole, changed in place", f, in, 90)
		f.Blocks[0].Code[0].N = 7
	}
}
