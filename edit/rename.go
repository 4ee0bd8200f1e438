package edit

import (
	"strake/api"
	"strake/fresh"
)

// renamed takes the order of all blocks.
func renamed(f api.Func, order []int) api.Func {
	g := fresh.Func(f)
	place := make([]int, len(order))
	var blocks []api.Block
	for at, b := range order {
		place[b] = at
		blocks = append(blocks, g.Blocks[b])
	}
	g.Blocks = blocks
	renumberValues(blocks, len(f.Params))
	for i := range blocks {
		renumberBlocks(&blocks[i], place)
	}
	return g
}

// renumberBlocks gives the blocks that a block goes to, and comes from, their places as numbers.
func renumberBlocks(b *api.Block, place []int) {
	for i, to := range b.Term.To {
		b.Term.To[i] = place[to]
	}
	for i := range b.Phis {
		ways := waysOf(b.Phis[i])
		for k := range ways {
			ways[k].from = place[ways[k].from]
		}
		sortWays(ways)
		setWays(&b.Phis[i], ways)
	}
}
