package canon

import (
	"slices"

	"strake/api"
	"strake/graph"
	"strake/inside"
)

// nest is a strict function with its loops, and the ways to its blocks.
type nest struct {
	api.Func
	inside.Nest
	preds [][]int // of each block those that go to it, rising
}

func nestOf(f api.Func) (nest, api.Errno) {
	all, e := inside.NestOf(f)
	if e != api.OK {
		return nest{}, e
	}
	preds, _ := graph.Preds(f) // Of a strict function they are told.
	return nest{f, all, preds}, api.OK
}

// entries are the blocks outside of a loop that go to its head.
func (n nest) entries(l api.Loop) []int {
	return slices.DeleteFunc(slices.Clone(n.preds[l.Head]), func(b int) bool { return inside.Has(l, b) })
}

func (n nest) isPlain(l api.Loop) bool {
	entries := n.entries(l)
	outside := func(b int) bool { return !inside.Has(l, b) }
	shared := func(exit int) bool { return slices.ContainsFunc(n.preds[exit], outside) }
	return len(entries) == 1 && n.Blocks[entries[0]].Term.Op == api.Jump &&
		len(l.Latches) == 1 && !slices.ContainsFunc(l.Exits, shared)
}
