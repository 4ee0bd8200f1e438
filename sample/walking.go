package sample

import (
	"strake/api"
	"strake/dom"
	"strake/graph"
)

// What each block of a walking function makes; the phis not in block 0.
const (
	phiMark = iota
	phiSum
	phiSame
	phiOdd
	walkOne
	walkMark
	walkBits
	walkAny
	walkLeft
	walkLow
	walkOdd
	walkPick
	walkSum
	walkValues
)

func walkId(b, which int) int { return 2 + b*walkValues + which }

// Walking is a function with the ways of a graph whose blocks can all be come to; of a graph of hundreds it is beyond ir's
// limits. Each block that is come to uses up the lowest bit of the first number: where a block goes on to one of two, it is
// the first one if the bit is 1; the run ends with TrapZero where no bit is left. Each block tells a sum of what its phis
// have got on the way there, and the sum of the block that dominates it closest, which one of its phis has from everywhere.
func Walking(ways api.Func) api.Func {
	idoms, _ := dom.Idoms(ways)
	preds, _ := graph.Preds(ways)
	f := api.Func{Params: []int{api.Int, api.Int}, Cells: 1}
	for b, block := range ways.Blocks {
		end := block.Term
		switch end.Op {
		case api.Branch:
			end = Branch(walkId(b, walkOdd), end.To[0], end.To[1])
		case api.Jump:
			end = Jump(end.To[0])
		default:
			end = Return(walkId(b, walkSum))
		}
		code := append(walkStart(b), walkCode(b, idoms[b])...)
		f.Blocks = append(f.Blocks, api.Block{Phis: walkPhis(b, idoms[b], preds[b]), Code: code, Term: end})
	}
	return f
}

func walkPhis(b, idom int, preds []int) []api.Phi {
	if b == 0 {
		return nil
	}
	phis := []api.Phi{
		{Id: walkId(b, phiMark), Type: api.Int},
		{Id: walkId(b, phiSum), Type: api.Int},
		{Id: walkId(b, phiSame), Type: api.Int},
		{Id: walkId(b, phiOdd), Type: api.Bool},
	}
	for _, p := range preds {
		for i, val := range []int{walkId(p, walkMark), walkId(p, walkSum), walkId(idom, walkSum), walkId(p, walkOdd)} {
			phis[i].From, phis[i].Vals = append(phis[i].From, p), append(phis[i].Vals, val)
		}
	}
	return phis
}

// walkStart sets the bits, ahead of all that uses them.
func walkStart(b int) []api.Instr {
	if b != 0 {
		return nil
	}
	return []api.Instr{{Op: api.OpSet, Id: -1, Args: []int{0}}}
}

func walkCode(b, idom int) []api.Instr {
	is := func(op, which int, args ...int) api.Instr {
		return api.Instr{Op: op, Id: walkId(b, which), Args: args}
	}
	id := func(which int) int { return walkId(b, which) }
	one, mark := is(api.OpConst, walkOne), is(api.OpConst, walkMark)
	one.N, mark.N = 1, 100+b
	code := []api.Instr{
		one, mark,
		is(api.OpGet, walkBits),
		is(api.OpDiv, walkAny, id(walkOne), id(walkBits)),
		is(api.OpShr, walkLeft, id(walkBits), id(walkOne)),
		{Op: api.OpSet, Id: -1, Args: []int{id(walkLeft)}},
		is(api.OpAnd, walkLow, id(walkBits), id(walkOne)),
		is(api.OpEq, walkOdd, id(walkLow), id(walkOne)),
	}
	if b == 0 {
		code = append(code, is(api.OpAdd, walkSum, id(walkMark), 1))
	} else {
		code = append(code, is(api.OpSelect, walkPick, id(phiOdd), id(phiMark), id(phiSame)), is(api.OpAdd, walkSum, id(walkPick), id(phiSum)))
		code = append(code, tell(walkId(idom, walkSum)))
	}
	return append(code, tell(id(walkSum)))
}

func tell(id int) api.Instr { return api.Instr{Op: api.OpOut, Id: -1, Args: []int{id}} }

// Recalling is the walking function of a graph, but each block tells the sums of all that dominate it again, the closest
// first, so that values are used far from where they are made.
func Recalling(ways api.Func) api.Func {
	f := Walking(ways)
	idoms, _ := dom.Idoms(ways)
	for b := range f.Blocks {
		for d := idoms[b]; d >= 0; d = idoms[d] {
			f.Blocks[b].Code = append(f.Blocks[b].Code, tell(walkId(d, walkSum)))
		}
	}
	return f
}

// Walks are inputs for walking functions.
func Walks() []api.Input {
	var all []api.Input
	for _, bits := range []int{-1, 0x5555, 0xb2d9c8, 0x3c965a3, 0x1234567, 0x6db6c924a7} {
		all = append(all, api.Input{Args: []int{bits, 7}})
	}
	return all
}
