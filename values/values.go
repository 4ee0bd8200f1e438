// Package values goes through a function's values, for layers that change functions.
package values

import (
	"strake/api"
	"strake/ir"
)

// EachUse shows see the place of each use in blocks.
func EachUse(blocks []api.Block, see func(id *int)) {
	for i := range blocks {
		b := &blocks[i]
		for _, p := range b.Phis {
			eachOf(p.Vals, see)
		}
		for _, in := range b.Code {
			eachOf(in.Args, see)
		}
		if b.Term.Op == api.Branch || b.Term.Op == api.Return {
			see(&b.Term.Val)
		}
	}
}

func eachOf(ids []int, see func(id *int)) {
	for i := range ids {
		see(&ids[i])
	}
}

// FirstNew is one more than the greatest value. The function must be one that ir.Check takes.
func FirstNew(f api.Func) int {
	ids, _ := ir.Ids(f)
	if len(ids) == 0 {
		return 0
	}
	return ids[len(ids)-1] + 1
}
