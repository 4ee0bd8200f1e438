package loops

import (
	"strake/api"
	"strake/dom"
	"strake/graph"
	"strake/strict"
)

// function is a strict function, with the ways through it: all its blocks can be come to.
type function struct {
	api.Func
	preds [][]int // of each block those that go to it, rising
	idoms []int   // of each block but 0 the one that dominates it closest
	place []int   // of each block where it stands in graph.Order, behind all others that dominate it
}

func functionOf(f api.Func) (function, api.Errno) {
	if _, e := strict.Check(f); e != api.OK {
		return function{}, e
	}
	// Of a strict function all of these are told.
	preds, _ := graph.Preds(f)
	idoms, _ := dom.Idoms(f)
	order, _ := graph.Order(f)
	place := make([]int, len(order))
	for at, b := range order {
		place[b] = at
	}
	return function{f, preds, idoms, place}, api.OK
}

func (f function) dominates(a, b int) bool {
	for f.place[b] > f.place[a] {
		b = f.idoms[b]
	}
	return a == b
}

// latches are the blocks with a way back to a block, rising.
func (f function) latches(head int) []int {
	var all []int
	for _, p := range f.preds[head] {
		if f.dominates(head, p) {
			all = append(all, p)
		}
	}
	return all
}

// odd are the blocks to which an edge goes against the order that is no way back.
func (f function) odd() []int {
	odd := make(blockSet, len(f.Blocks))
	for b, preds := range f.preds {
		for _, p := range preds {
			if f.place[p] >= f.place[b] && !f.dominates(b, p) {
				odd[b] = true
			}
		}
	}
	return odd.rising()
}
