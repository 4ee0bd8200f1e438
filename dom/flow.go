package dom

import (
	"slices"

	"strake/api"
	"strake/graph"
)

// out is the place of a block that can't be come to.
const out = -1

// flow is a function's graph, as layer 3 tells it.
type flow struct {
	preds [][]int // of each block those that go to it
	order []int   // the blocks that can be come to, each behind all that dominate it
	place []int   // of each block where it stands in the order, or out
}

func flowOf(f api.Func) (flow, api.Errno) {
	preds, e := graph.Preds(f)
	if e != api.OK {
		return flow{}, e
	}
	order, e := graph.Order(f)
	if e != api.OK {
		return flow{}, e
	}
	place := slices.Repeat([]int{out}, len(preds))
	for at, b := range order {
		place[b] = at
	}
	return flow{preds, order, place}, api.OK
}

func (w flow) isBlock(b int) bool { return 0 <= b && b < len(w.place) }

func (w flow) comeTo(b int) bool { return w.place[b] != out }
