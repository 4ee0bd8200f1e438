package dom

import (
	"slices"

	"strake/api"
)

// none stands where no block dominates another closest.
const none = -1

// tree is a graph, with the block that dominates each of its blocks closest.
type tree struct {
	flow
	idoms []int
}

func treeOf(f api.Func) (tree, api.Errno) {
	w, e := flowOf(f)
	if e != api.OK {
		return tree{}, e
	}
	t := tree{w, slices.Repeat([]int{none}, len(w.preds))}
	t.grow()
	return t, api.OK
}

// grow goes over the blocks until nothing changes. One round is not enough: it does not see ways from blocks that stand
// behind in the order, and in a loop with two ways in those may change what dominates.
func (t tree) grow() {
	for changed := true; changed; {
		changed = false
		for _, b := range t.order[1:] {
			if d := t.closest(b); d != t.idoms[b] {
				t.idoms[b] = d
				changed = true
			}
		}
	}
}

// closest: where the ways to a block meet, as far as the tree has grown.
func (t tree) closest(b int) int {
	d := none
	for _, p := range t.preds[b] {
		switch {
		case !t.grown(p):
		case d == none:
			d = p
		default:
			d = t.meet(d, p)
		}
	}
	return d
}

// grown: does the tree have a block by now? It never has those that can't be come to.
func (t tree) grown(b int) bool { return b == 0 || t.idoms[b] != none }

// meet takes up whichever block stands later in the order, as what dominates a block stands ahead of it.
func (t tree) meet(a, b int) int {
	for a != b {
		if t.place[a] > t.place[b] {
			a = t.idoms[a]
		} else {
			b = t.idoms[b]
		}
	}
	return a
}

func (t tree) dominates(a, b int) bool {
	return t.comeTo(a) && t.comeTo(b) && t.meet(a, b) == a
}

// frontiers takes each way from p to b: from p up to the block that dominates b closest, itself left out, stand those
// that dominate p, but not b, and b, if it dominates p.
func (t tree) frontiers() [][]int {
	all := make([][]int, len(t.preds))
	for b := range t.preds {
		for _, p := range t.preds[b] {
			if !t.comeTo(p) {
				continue
			}
			for a := p; a != t.idoms[b]; a = t.idoms[a] {
				all[a] = addOnce(all[a], b)
			}
		}
	}
	return all
}

// addOnce adds a block to a rising list that has none greater.
func addOnce(list []int, b int) []int {
	if len(list) > 0 && list[len(list)-1] == b {
		return list
	}
	return append(list, b)
}
