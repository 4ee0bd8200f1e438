package edit

import (
	"strake/api"
	"strake/fresh"
	"strake/values"
)

// checkBlocks asks whether all are blocks ahead of whether one stands twice: a number that is no block's comes ahead.
func checkBlocks(f api.Func, blocks []int) api.Errno {
	for _, b := range blocks {
		if b < 0 || b >= len(f.Blocks) {
			return api.ErrNone
		}
	}
	seen := make([]bool, len(f.Blocks))
	for _, b := range blocks {
		if seen[b] {
			return api.ErrArg
		}
		seen[b] = true
	}
	return api.OK
}

// cloner knows what stands for what in copies of blocks.
type cloner struct {
	copyOf map[int]int      // of each block that is copied its copy
	now    func(id int) int // of each value what it is in the copies; a new one stays what it is
}

// cloned may answer a function that is beyond the limits.
func cloned(f api.Func, blocks []int) (api.Func, []int) {
	g := fresh.Func(f)
	added := copiesOf(f, blocks)
	c := cloner{map[int]int{}, renumberValues(added, values.FirstNew(f))}
	var copies []int
	for i, b := range blocks {
		copies = append(copies, len(f.Blocks)+i)
		c.copyOf[b] = copies[i]
	}
	for i := range added {
		c.turn(&added[i])
	}
	for b := range g.Blocks {
		if _, copied := c.copyOf[b]; !copied {
			c.comeFromCopies(&g.Blocks[b])
		}
	}
	g.Blocks = append(g.Blocks, added...)
	return g, copies
}

func copiesOf(f api.Func, blocks []int) []api.Block {
	var all []api.Block
	for _, b := range blocks {
		all = append(all, f.Blocks[b])
	}
	return fresh.Func(api.Func{Blocks: all}).Blocks
}

// turn makes a copy go to copies, and come from copies alone.
func (c cloner) turn(b *api.Block) {
	for i, to := range b.Term.To {
		if copied, ok := c.copyOf[to]; ok {
			b.Term.To[i] = copied
		}
	}
	for i := range b.Phis {
		setWays(&b.Phis[i], c.fromCopies(b.Phis[i]))
	}
}

// comeFromCopies gives the phis of a block that is not copied what they have from copies. As a phi of strict form has
// something from just those that go there, so do the copies of those.
func (c cloner) comeFromCopies(b *api.Block) {
	for i := range b.Phis {
		ways := c.fromCopies(b.Phis[i])
		sortWays(ways)
		addWays(&b.Phis[i], ways)
	}
}

// fromCopies: what a phi has from blocks that are copied, turned into what it has from their copies.
func (c cloner) fromCopies(p api.Phi) []way {
	var ways []way
	for _, w := range waysOf(p) {
		if copied, ok := c.copyOf[w.from]; ok {
			ways = append(ways, way{copied, c.now(w.val)})
		}
	}
	return ways
}
