package repair

import (
	"iter"

	"strake/api"
	"strake/dom"
	"strake/graph"
	"strake/strict"
)

// tree is the ways through a function whose blocks can all be come to, as layers 3 and 4 tell them.
type tree struct {
	order     []int   // the blocks, each behind those that dominate it
	preds     [][]int // of each block those that go to it, rising
	idoms     []int   // of each block but 0 the one that dominates it closest
	frontiers [][]int // of each block where its dominance ends
}

// downwards goes through the blocks, each behind those that dominate it.
func (t tree) downwards() iter.Seq[int] {
	return func(yield func(b int) bool) {
		for _, b := range t.order {
			if !yield(b) {
				return
			}
		}
	}
}

// backwards goes through the blocks, each behind those that it goes to, ways back left aside.
func (t tree) backwards() iter.Seq[int] {
	return func(yield func(b int) bool) {
		for at := len(t.order) - 1; at >= 0; at-- {
			if !yield(t.order[at]) {
				return
			}
		}
	}
}

// function is a strict function, with its tree.
type function struct {
	api.Func
	tree
}

func functionOf(f api.Func) (function, api.Errno) {
	if _, e := strict.Check(f); e != api.OK {
		return function{}, e
	}
	// Of a strict function all of these are told.
	order, _ := graph.Order(f)
	preds, _ := graph.Preds(f)
	idoms, _ := dom.Idoms(f)
	frontiers, _ := dom.Frontiers(f)
	return function{f, tree{order, preds, idoms, frontiers}}, api.OK
}
