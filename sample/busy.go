package sample

import (
	"math"
	"slices"

	"strake/api"
	"strake/dom"
	"strake/graph"
	"strake/ir"
)

// Busy is a strict function told by a seed, with at most so many blocks, from 2 to 100: a seeded graph's that can be come
// to, with phis and operations of all kinds. Its parameters are a flag and two numbers; it has two arrays and three cells.
// Most elements are asked for below 4, and most divisions are not by 0, so that not all runs end soon.
func Busy(blocks, seed int) api.Func {
	f, _ := graph.Prune(Seeded(blocks, seed))
	f.Params, f.Arrays, f.Cells = []int{api.Bool, api.Int, api.Int}, 2, 3
	idoms, _ := dom.Idoms(f)
	order, _ := graph.Order(f)
	preds, _ := graph.Preds(f)
	g := grower{f, Numbering(seed), len(f.Params), make([]known, len(f.Blocks))}
	for _, b := range order {
		if b == 0 {
			g.known[b] = known{api.Bool: {0}, api.Int: {1, 2}}
		} else {
			g.known[b] = g.known[idoms[b]].copied()
			g.phis(b)
		}
		for range g.next(12) {
			g.instr(b, 1+g.next(api.OpSet))
		}
		g.end(&f.Blocks[b].Term, b)
	}
	for b := range f.Blocks {
		g.fillPhis(b, preds[b])
	}
	return f
}

// known are by types the values that come ahead of a block's end.
type known [3][]int

func (k known) copied() known {
	for typ := range k {
		k[typ] = append([]int(nil), k[typ]...)
	}
	return k
}

// grower is a function that grows, with what is known in each of its blocks.
type grower struct {
	api.Func
	next  func(below int) int
	ids   int
	known []known
}

func (g *grower) define(b, typ int) int {
	id := g.ids
	g.ids++
	g.known[b][typ] = append(g.known[b][typ], id)
	return id
}

// pick takes one of the last values more often than another.
func (g *grower) pick(b, typ int) int {
	all := g.known[b][typ]
	if g.next(3) > 0 {
		all = all[max(0, len(all)-4):]
	}
	return all[g.next(len(all))]
}

func (g *grower) phis(b int) {
	for range g.next(4) {
		typ := api.Int + g.next(2)
		g.Blocks[b].Phis = append(g.Blocks[b].Phis, api.Phi{Id: g.define(b, typ), Type: typ})
	}
}

// fillPhis comes behind all else: a phi may get what is made behind it.
func (g *grower) fillPhis(b int, preds []int) {
	for i := range g.Blocks[b].Phis {
		p := &g.Blocks[b].Phis[i]
		from := slices.Concat(preds[i%len(preds):], preds[:i%len(preds)])
		for _, a := range from {
			p.From, p.Vals = append(p.From, a), append(p.Vals, g.pick(a, p.Type))
		}
	}
}

func (g *grower) instr(b, op int) {
	makes, takes, _ := ir.Args(op)
	in := api.Instr{Op: op, Id: -1, N: g.numberOf(op)}
	for _, typ := range takes {
		in.Args = append(in.Args, g.pick(b, typ))
	}
	if g.next(10) > 0 {
		g.tame(b, in)
	}
	if makes != 0 {
		in.Id = g.define(b, makes)
	}
	g.Blocks[b].Code = append(g.Blocks[b].Code, in)
}

func (g *grower) numberOf(op int) int {
	switch op {
	case api.OpConst:
		return g.constant()
	case api.OpFlag, api.OpLen, api.OpLoad, api.OpStore, api.OpFetch, api.OpPut:
		return g.next(2)
	case api.OpGet, api.OpSet:
		return g.next(3)
	}
	return 0
}

func (g *grower) constant() int {
	switch g.next(8) {
	case 0:
		return math.MinInt + g.next(2)
	case 1:
		return math.MaxInt - g.next(2)
	case 2:
		return 60 + g.next(9)
	}
	return g.next(9) - 3
}

// tame makes an instruction that may trap or go wild less dangerous: its index is from 0 to 3, or its divisor is odd.
func (g *grower) tame(b int, in api.Instr) {
	switch in.Op {
	case api.OpLoad, api.OpStore, api.OpFetch, api.OpPut:
		in.Args[0] = g.bent(b, api.OpAnd, in.Args[0], 3)
	case api.OpDiv, api.OpRem:
		in.Args[1] = g.bent(b, api.OpOr, in.Args[1], 1)
	}
}

// bent is what an operation makes of a value and of a number.
func (g *grower) bent(b, op, id, n int) int {
	number := g.define(b, api.Int)
	made := g.define(b, api.Int)
	g.Blocks[b].Code = append(g.Blocks[b].Code,
		api.Instr{Op: api.OpConst, Id: number, N: n},
		api.Instr{Op: op, Id: made, Args: []int{id, number}})
	return made
}

func (g *grower) end(t *api.Term, b int) {
	switch {
	case t.Op == api.Branch:
		t.Val = g.pick(b, api.Bool)
	case t.Op == api.Return && g.next(4) == 0:
		*t = Trap(g.next(3))
	case t.Op == api.Return:
		t.Val = g.pick(b, api.Int+g.next(2))
	}
}
