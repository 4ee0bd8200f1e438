package sample

import (
	"strconv"

	"strake/api"
)

// Line is a way of so many blocks that goes from each to the next.
func Line(blocks int) api.Func {
	f := api.Func{}
	for b := range blocks - 1 {
		f.Blocks = append(f.Blocks, api.Block{Term: Jump(b + 1)})
	}
	f.Blocks = append(f.Blocks, api.Block{Term: Trap(0)})
	return f
}

// Ladder: two lines of so many blocks go on side by side, from each block of one there is a way to its neighbour, and
// from the last block ways go back to both lines.
func Ladder(rungs int) api.Func {
	f := api.Func{Params: []int{api.Bool}, Blocks: []api.Block{{Term: Branch(0, 1, 2)}}}
	last := 2*rungs + 1
	for r := range rungs {
		next := min(2*r+3, last)
		f.Blocks = append(f.Blocks, api.Block{Term: Branch(0, next, 2*r+2)}, api.Block{Term: Branch(0, min(next+1, last), 2*r+1)})
	}
	f.Blocks = append(f.Blocks, api.Block{Term: Branch(0, last-1, max(last-2, 1))})
	return f
}

// BothWays: each block goes to the one behind it and the one ahead, and block 0 to both ends.
func BothWays() api.Func {
	f := Line(api.MaxBlocks)
	f.Params = []int{api.Bool}
	for b := range f.Blocks {
		f.Blocks[b].Term = Branch(0, max(b-1, 1), min(b+1, api.MaxBlocks-1))
	}
	f.Blocks[0].Term = Branch(0, 1, api.MaxBlocks-1)
	return f
}

// Nested is so many loops one in another: behind block 0 come their heads, the outermost first, then the blocks that go
// back to them, the innermost first, and one behind all.
func Nested(loops int) api.Func {
	f := api.Func{Params: []int{api.Bool}}
	for b := range loops + 1 {
		f.Blocks = append(f.Blocks, api.Block{Term: Jump(b + 1)})
	}
	for head := loops; head > 0; head-- {
		f.Blocks = append(f.Blocks, api.Block{Term: Branch(0, head, len(f.Blocks)+1)})
	}
	f.Blocks = append(f.Blocks, api.Block{Term: Return(0)})
	return f
}

// Seeded is a graph of so many blocks, two at least, some of which may not be come to, told by a seed.
func Seeded(blocks, seed int) api.Func {
	f := api.Func{Params: []int{api.Bool}}
	next := Numbering(seed)
	for range blocks {
		end := Branch(0, 1+next(blocks-1), 1+next(blocks-1))
		switch next(8) {
		case 0, 1, 2:
			end = Jump(1 + next(blocks-1))
		case 3:
			end = Return(0)
		}
		f.Blocks = append(f.Blocks, api.Block{Term: end})
	}
	return f
}

// Numbering tells one number after the other, from 0 on and below what is asked for, that follow no plain order: the same
// ones for the same seed.
func Numbering(seed int) func(below int) int {
	state := uint32(seed)
	return func(below int) int {
		state = state*1664525 + 1013904223
		return int(state>>8) % below
	}
}

// Without: which blocks can be come to by ways that do not go through one block; -1: by all ways.
func Without(f api.Func, cut int) []bool {
	reach := make([]bool, len(f.Blocks))
	open := []int{0}
	for len(open) > 0 {
		b := open[len(open)-1]
		open = open[:len(open)-1]
		if b != cut && !reach[b] {
			reach[b] = true
			open = append(open, f.Blocks[b].Term.To...)
		}
	}
	return reach
}

// EachGraph shows see all graphs of so many blocks. Block b makes value 10 + b, and, but for block 0, phi 20 + b, which is
// v0, a flag, from each block, the last one first, whether that one goes to b or not. What see is given is changed behind it.
func EachGraph(blocks int, see func(what string, f api.Func)) {
	f := api.Func{Params: []int{api.Bool}, Blocks: make([]api.Block, blocks)}
	for b := range f.Blocks {
		f.Blocks[b].Code = []api.Instr{{Op: api.OpConst, Id: 10 + b, N: b}}
		if b > 0 {
			f.Blocks[b].Phis = []api.Phi{phiOfAll(20+b, blocks)}
		}
	}
	all := ends(blocks)
	var choose func(b int, what string)
	choose = func(b int, what string) {
		if b == blocks {
			see(what, f)
			return
		}
		for _, end := range all {
			f.Blocks[b].Term = end.Term
			choose(b+1, what+end.what)
		}
	}
	choose(0, "blocks go to")
}

func phiOfAll(id, blocks int) api.Phi {
	p := api.Phi{Id: id, Type: api.Bool}
	for from := blocks - 1; from >= 0; from-- {
		p.From, p.Vals = append(p.From, from), append(p.Vals, 0)
	}
	return p
}

// namedEnd is an end, with where it goes to in words.
type namedEnd struct {
	api.Term
	what string
}

// ends are all ends of blocks, as far as graphs of so many blocks have them.
func ends(blocks int) []namedEnd {
	all := []namedEnd{{Return(0), " nothing"}}
	for to := 1; to < blocks; to++ {
		what := " " + strconv.Itoa(to)
		all = append(all, namedEnd{Jump(to), what})
		for other := 1; other < blocks; other++ {
			all = append(all, namedEnd{Branch(0, to, other), what + "/" + strconv.Itoa(other)})
		}
	}
	return all
}
