package sample

import (
	"slices"

	"strake/api"
	"strake/interp"
	"strake/ir"
)

// Inputs are some for functions with the parameters and arrays of Busy.
func Inputs() []api.Input {
	return []api.Input{
		{},
		{Args: []int{1, 5, -2}, Arrays: [][]int{{1, 2, 3, 4}, {-5, 6, 0, 1 << 62, 9}}},
		{Args: []int{0, 0, 1}, Arrays: [][]int{{7, 7, 7, 7, 7, 7, 7}, {0, 0, 0}}},
		{Args: []int{-9, -1 << 63, 3, 4}, Arrays: [][]int{make([]int, api.MaxLen+1), {1, 1, 1, 1}, {2}}},
	}
}

// fuel is how long runs go that do not end by themselves: longer ones would tell little more.
const fuel = 20000

// Does tells what speaks against g doing what f does with an input (rule R9), as far as fuel lets runs go; nothing: "".
func Does(f, g api.Func, in api.Input) string {
	if !slices.Equal(f.Params, g.Params) || f.Arrays != g.Arrays {
		return "it has other parameters or arrays"
	}
	size, _ := ir.Size(f)
	was := interp.Run(f, in, fuel)
	enough := 16 * (was.Steps + 1) * (size + 1)
	if was.End == api.NoFuel {
		enough = fuel
	}
	is := interp.Run(g, in, enough)
	switch {
	case was.End == api.Refused || is.End == api.Refused:
		return "a run is refused"
	case was.End == api.Wild:
		return doesBehindWild(was, is)
	case was.End == api.NoFuel || is.End == api.NoFuel && enough > api.MaxFuel:
		return doesWithoutFuel(was, is)
	}
	return doesToTheEnd(was, is)
}

func doesToTheEnd(was, is api.Trace) string {
	switch {
	case was.End != is.End:
		return "it ends otherwise"
	case was.Value != is.Value:
		return "it has another value"
	case was.Trap != is.Trap:
		return "it has another trap"
	case !slices.Equal(was.Out, is.Out):
		return "it tells other numbers"
	case !slices.EqualFunc(was.Arrays, is.Arrays, slices.Equal):
		return "it has other arrays at the end"
	}
	return ""
}

func doesBehindWild(was, is api.Trace) string {
	if is.End == api.Wild || beginsWith(is.Out, was.Out) || is.End == api.NoFuel && beginsWith(was.Out, is.Out) {
		return ""
	}
	return "it does not tell what was told ahead of Wild"
}

// doesWithoutFuel: what one run tells has to go on as the other one's does, if that one was cut off.
func doesWithoutFuel(was, is api.Trace) string {
	if was.End == api.NoFuel && beginsWith(is.Out, was.Out) || is.End == api.NoFuel && beginsWith(was.Out, is.Out) {
		return ""
	}
	return "it does not go on as it did"
}

func beginsWith(list, first []int) bool {
	return len(list) >= len(first) && slices.Equal(list[:len(first)], first)
}
