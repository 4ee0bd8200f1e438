package strict

import "slices"

// none stands where no block dominates another closest, and where a walk does not come to.
const none = -1

// tree has the numbers of a walk down from block 0, from each block to those that it dominates closest: a block
// dominates those with the numbers from its first to its last.
type tree struct{ first, last []int }

func treeOf(idoms []int) tree {
	below := make([][]int, len(idoms))
	for b, d := range idoms {
		if d != none {
			below[d] = append(below[d], b)
		}
	}
	t := tree{slices.Repeat([]int{none}, len(idoms)), make([]int, len(idoms))}
	walked := 0
	var walk func(b int)
	walk = func(b int) {
		t.first[b] = walked
		walked++
		for _, next := range below[b] {
			walk(next)
		}
		t.last[b] = walked - 1
	}
	walk(0)
	return t
}

func (t tree) comeTo(b int) bool { return t.first[b] != none }

// dominates is for blocks that can be come to.
func (t tree) dominates(a, b int) bool { return t.first[a] <= t.first[b] && t.first[b] <= t.last[a] }
