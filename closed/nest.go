package closed

import (
	"strake/api"
	"strake/dom"
	"strake/graph"
	"strake/inside"
	"strake/values"
)

// nest is a strict function with its loops, the ways to its blocks, and its values.
type nest struct {
	api.Func
	inside.Nest
	order []int              // the blocks, each behind those that dominate it
	preds [][]int            // of each block those that go to it, rising
	idoms []int              // of each block but 0 the one that dominates it closest
	defs  map[int]values.Def // of each value where it is made
}

func nestOf(f api.Func) (nest, api.Errno) {
	all, e := inside.NestOf(f)
	if e != api.OK {
		return nest{}, e
	}
	// Of a strict function all of these are told.
	order, _ := graph.Order(f)
	preds, _ := graph.Preds(f)
	idoms, _ := dom.Idoms(f)
	return nest{f, all, order, preds, idoms, values.Defs(f)}, api.OK
}

// out tells whether what is made in one block is outside of a loop of that one's at the end of another.
func (n nest) out(made, at int) bool { return n.Leaves(made, at) != inside.NoLoop }

// open tells of the values that leave loops openly at whose ends they are used outside. As a value comes ahead of its
// uses, a phi of the loop uses none that is made in the loop and come from outside: where a use is come from tells enough.
func (n nest) open() map[int][]int {
	open := map[int][]int{}
	values.EachUseAt(n.Blocks, func(id *int, at int) {
		if n.out(n.defs[*id].Block, at) {
			open[*id] = append(open[*id], at)
		}
	})
	return open
}
