package closed

import "slices"

// closer closes the loops of its nest for one value: it looks for the blocks that have to make the value anew, by a phi.
// A block has to, if it is out of the loop of the one that made what stands for the value where the block is dominated
// closest. That covers blocks to which several come that each made it anew: they did so on ways out of that loop, and no
// way goes back into it but through its head, which comes ahead of all that is made in it.
type closer struct {
	nest
	needed []bool // the blocks that have to be handed the value, those of the least loop that it is made in left aside
	made   []int  // of each block the one that made what stands for the value at its end, as far as it is needed
}

func closerOf(n nest, made int, uses []int) closer {
	blocks := len(n.Blocks)
	c := closer{n, make([]bool, blocks), slices.Repeat([]int{made}, blocks)}
	c.need(made, uses)
	c.handDown()
	return c
}

// need goes backwards from uses, as a block needs what those that it goes to need.
func (c *closer) need(made int, uses []int) {
	open := slices.Clone(uses)
	for len(open) > 0 {
		b := open[len(open)-1]
		open = open[:len(open)-1]
		if c.out(made, b) && !c.needed[b] {
			c.needed[b] = true
			open = append(open, c.preds[b]...)
		}
	}
}

// handDown hands each block what the one that dominates it closest has, or has the block make it anew.
func (c *closer) handDown() {
	for _, b := range c.order {
		if !c.needed[b] {
			continue
		}
		if handed := c.made[c.idoms[b]]; c.out(handed, b) {
			c.made[b] = b
		} else {
			c.made[b] = handed
		}
	}
}

func (c *closer) anew(b int) bool { return c.needed[b] && c.made[b] == b }
