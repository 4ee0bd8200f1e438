package sample

import (
	"slices"

	"strake/api"
	"strake/values"
)

// Celled is a function of Busy's that uses its cells more: most blocks ask for some first, and tell of them, or set some last.
func Celled(blocks, seed int) api.Func {
	f := Busy(blocks, seed)
	next := Numbering(seed + 7)
	id := values.FirstNew(f)
	for b := range f.Blocks {
		known := []int{1, 2}
		var head, tail []api.Instr
		for range next(3) {
			head = append(head, api.Instr{Op: api.OpGet, Id: id, N: next(f.Cells)}, api.Instr{Op: api.OpOut, Id: -1, Args: []int{id}})
			known = append(known, id)
			id++
		}
		for range next(3) {
			tail = append(tail, api.Instr{Op: api.OpSet, Id: -1, Args: []int{known[next(len(known))]}, N: next(f.Cells)})
		}
		f.Blocks[b].Code = slices.Concat(head, f.Blocks[b].Code, tail)
	}
	return f
}
