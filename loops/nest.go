package loops

import (
	"slices"

	"strake/api"
)

// noLoop stands where no loop is around another.
const noLoop = -1

// nest is a function with its loops, by their heads.
type nest struct {
	function
	loops []api.Loop
}

func nestOf(f api.Func) (nest, api.Errno) {
	s, e := functionOf(f)
	if e != api.OK {
		return nest{}, e
	}
	n := nest{function: s}
	for b := range n.Blocks {
		if latches := n.latches(b); len(latches) > 0 {
			n.addLoop(b, latches)
		}
	}
	for i := range n.loops {
		n.loops[i].Parent = n.around(i)
	}
	return n, api.OK
}

func (n *nest) addLoop(head int, latches []int) {
	within := n.within(head, latches)
	blocks := within.rising()
	n.loops = append(n.loops, api.Loop{Head: head, Blocks: blocks, Latches: latches, Exits: n.exits(blocks, within)})
}

// within goes backwards from the latches: the head is in the loop beforehand, so that no way goes through it.
func (n nest) within(head int, latches []int) blockSet {
	within := make(blockSet, len(n.Blocks))
	within[head] = true
	var open pending[int]
	open.add(latches...)
	for b, ok := open.take(); ok; b, ok = open.take() {
		if !within[b] {
			within[b] = true
			open.add(n.preds[b]...)
		}
	}
	return within
}

func (n nest) exits(blocks []int, within blockSet) []int {
	exits := make(blockSet, len(n.Blocks))
	for _, b := range blocks {
		for _, to := range n.Blocks[b].Term.To {
			if !within[to] {
				exits[to] = true
			}
		}
	}
	return exits.rising()
}

// around looks for the least other loop that has the loop's head: of two loops that share a block the heads dominate it
// both, so one has the other's head, and with it all of its blocks.
func (n nest) around(loop int) int {
	least := noLoop
	for i, l := range n.loops {
		_, has := slices.BinarySearch(l.Blocks, n.loops[loop].Head)
		if i != loop && has && (least == noLoop || len(l.Blocks) < len(n.loops[least].Blocks)) {
			least = i
		}
	}
	return least
}

func (n nest) depths() []int {
	depths := make([]int, len(n.Blocks))
	for _, l := range n.loops {
		for _, b := range l.Blocks {
			depths[b]++
		}
	}
	return depths
}
