package ir_test

import (
	"math"

	"strake/api"
)

// rich has every operation, phis of both types, every kind of end, and a block that nothing goes to.
// Its values are 0 to 25; 0, 2, 4 to 13, 18 to 23 and 25 are Int, the others Bool.
func rich() api.Func {
	code := []api.Instr{
		{Op: api.OpConst, Id: 2, N: 7},
		{Op: api.OpFlag, Id: 3, N: 1},
	}
	for op := api.OpAdd; op <= api.OpBelow; op++ {
		code = append(code, api.Instr{Op: op, Id: op + 1, Args: []int{0, 2}})
	}
	code = append(code,
		api.Instr{Op: api.OpNot, Id: 17, Args: []int{1}},
		api.Instr{Op: api.OpSelect, Id: 18, Args: []int{1, 0, 2}},
		api.Instr{Op: api.OpLen, Id: 19, N: 1},
		api.Instr{Op: api.OpLoad, Id: 20, Args: []int{0}, N: 0},
		api.Instr{Op: api.OpStore, Id: -1, Args: []int{0, 2}, N: 1},
		api.Instr{Op: api.OpFetch, Id: 21, Args: []int{2}, N: 1},
		api.Instr{Op: api.OpPut, Id: -1, Args: []int{2, 0}, N: 0},
		api.Instr{Op: api.OpOut, Id: -1, Args: []int{20}},
		api.Instr{Op: api.OpGet, Id: 22, N: 2},
		api.Instr{Op: api.OpSet, Id: -1, Args: []int{2}, N: 2},
	)
	return api.Func{Params: []int{api.Int, api.Bool}, Arrays: 2, Cells: 3, Blocks: []api.Block{
		{Code: code, Term: jump(1)},
		{Phis: []api.Phi{
			{Id: 23, Type: api.Int, From: []int{0, 2}, Vals: []int{2, 25}},
			{Id: 24, Type: api.Bool, From: []int{0, 2}, Vals: []int{3, 14}},
		}, Term: branch(24, 2, 3)},
		{Code: []api.Instr{{Op: api.OpAdd, Id: 25, Args: []int{23, 23}}}, Term: jump(1)},
		{Term: branch(17, 4, 4)},
		{Term: giveBack(24)},
		{Term: trap(3)},
		{Term: giveBack(23)},
	}}
}

func jump(to int) api.Term { return api.Term{Op: api.Jump, Val: -1, To: []int{to}} }

func branch(val, yes, no int) api.Term {
	return api.Term{Op: api.Branch, Val: val, To: []int{yes, no}}
}

func giveBack(val int) api.Term { return api.Term{Op: api.Return, Val: val} }

func trap(n int) api.Term { return api.Term{Op: api.Trap, Val: -1, N: n} }

// bare is the least function: one block that traps.
func bare() api.Func { return api.Func{Blocks: []api.Block{{Term: trap(0)}}} }

// row is a line of the chapter's table of operations: I is Int, B is Bool.
type row struct {
	op    int
	takes string
	makes string
	n     string
}

// table is written out by number, so that it does not lean on api's names.
func table() []row {
	rows := []row{{1, "", "I", "any"}, {2, "", "B", "flag"}}
	for op := 3; op <= 12; op++ {
		rows = append(rows, row{op, "II", "I", "none"})
	}
	return append(rows,
		row{13, "II", "B", "none"}, row{14, "II", "B", "none"}, row{15, "II", "B", "none"},
		row{16, "B", "B", "none"}, row{17, "BII", "I", "none"},
		row{18, "", "I", "array"}, row{19, "I", "I", "array"}, row{20, "II", "", "array"},
		row{21, "I", "I", "array"}, row{22, "II", "", "array"}, row{23, "I", "", "none"},
		row{24, "", "I", "cell"}, row{25, "I", "", "cell"},
	)
}

func typeNamed(c rune) int { return map[rune]int{'I': api.Int, 'B': api.Bool}[c] }

// single has one instruction of an operation that stands right: value 0 is Int, 1 is Bool, 2 what it makes, if anything.
func single(r row) api.Func {
	in := api.Instr{Op: r.op, Id: -1}
	if r.makes != "" {
		in.Id = 2
	}
	for _, c := range r.takes {
		in.Args = append(in.Args, map[rune]int{'I': 0, 'B': 1}[c])
	}
	return api.Func{Params: []int{api.Int, api.Bool}, Arrays: 2, Cells: 3, Blocks: []api.Block{
		{Code: []api.Instr{in}, Term: trap(0)},
	}}
}

// edges are numbers at which something may turn.
func edges() []int {
	return []int{
		math.MinInt, math.MinInt + 1, -3, -2, -1, 0, 1, 2, 3, 4, 5, 6, 7, 8, 9, 24, 25, 26, 63, 64, 65,
		api.MaxBlocks - 1, api.MaxBlocks, api.MaxId - 1, api.MaxId, api.MaxId + 1, math.MaxInt32, math.MaxInt - 1, math.MaxInt,
	}
}
