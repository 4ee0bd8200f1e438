// Package sample has functions to try the layers with. It is for tests alone.
package sample

import (
	"math"

	"strake/api"
)

// Rich has every operation, phis of both types, every kind of end, and a block that nothing goes to.
// Its values are 0 to 25; 0, 2, 4 to 13, 18 to 23 and 25 are Int, the others Bool.
func Rich() api.Func {
	code := []api.Instr{
		{Op: api.OpConst, Id: 2, N: 7},
		{Op: api.OpFlag, Id: 3, N: 1},
	}
	for op := api.OpAdd; op <= api.OpBelow; op++ {
		code = append(code, api.Instr{Op: op, Id: op + 1, Args: []int{0, 2}})
	}
	code = append(code,
		api.Instr{Op: api.OpNot, Id: 17, Args: []int{1}},
		api.Instr{Op: api.OpSelect, Id: 18, Args: []int{1, 0, 2}},
		api.Instr{Op: api.OpLen, Id: 19, N: 1},
		api.Instr{Op: api.OpLoad, Id: 20, Args: []int{0}, N: 0},
		api.Instr{Op: api.OpStore, Id: -1, Args: []int{0, 2}, N: 1},
		api.Instr{Op: api.OpFetch, Id: 21, Args: []int{2}, N: 1},
		api.Instr{Op: api.OpPut, Id: -1, Args: []int{2, 0}, N: 0},
		api.Instr{Op: api.OpOut, Id: -1, Args: []int{20}},
		api.Instr{Op: api.OpGet, Id: 22, N: 2},
		api.Instr{Op: api.OpSet, Id: -1, Args: []int{2}, N: 2},
	)
	return api.Func{Params: []int{api.Int, api.Bool}, Arrays: 2, Cells: 3, Blocks: []api.Block{
		{Code: code, Term: Jump(1)},
		{Phis: []api.Phi{
			{Id: 23, Type: api.Int, From: []int{0, 2}, Vals: []int{2, 25}},
			{Id: 24, Type: api.Bool, From: []int{0, 2}, Vals: []int{3, 14}},
		}, Term: Branch(24, 2, 3)},
		{Code: []api.Instr{{Op: api.OpAdd, Id: 25, Args: []int{23, 23}}}, Term: Jump(1)},
		{Term: Branch(17, 4, 4)},
		{Term: Return(24)},
		{Term: Trap(3)},
		{Term: Return(23)},
	}}
}

// Whole is Rich without the blocks that can't be come to: a strict function.
func Whole() api.Func {
	f := Rich()
	f.Blocks = f.Blocks[:5]
	return f
}

// Bare is the least function: one block that traps.
func Bare() api.Func { return api.Func{Blocks: []api.Block{{Term: Trap(0)}}} }

// Jump is an end.
func Jump(to int) api.Term { return api.Term{Op: api.Jump, Val: -1, To: []int{to}} }

// Branch is an end.
func Branch(val, yes, no int) api.Term {
	return api.Term{Op: api.Branch, Val: val, To: []int{yes, no}}
}

// Return is an end.
func Return(val int) api.Term { return api.Term{Op: api.Return, Val: val} }

// Trap is an end.
func Trap(n int) api.Term { return api.Term{Op: api.Trap, Val: -1, N: n} }

// Edges are numbers at which something may turn.
func Edges() []int {
	return []int{
		math.MinInt, math.MinInt + 1, -3, -2, -1, 0, 1, 2, 3, 4, 5, 6, 7, 8, 9, 24, 25, 26, 63, 64, 65,
		api.MaxBlocks - 1, api.MaxBlocks, api.MaxId - 1, api.MaxId, api.MaxId + 1, math.MaxInt32, math.MaxInt - 1, math.MaxInt,
	}
}
