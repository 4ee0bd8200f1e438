// Package values goes through a function's values, for layers that change functions.
package values

import (
	"strake/api"
	"strake/ir"
)

// EachUse shows see the place of each use in blocks.
func EachUse(blocks []api.Block, see func(id *int)) {
	EachUseAt(blocks, func(id *int, _ int) { see(id) })
}

// EachUseAt shows see the place of each use in blocks, and the block at whose end the value has to be there at the latest:
// its own, but for a phi the one that is come from.
func EachUseAt(blocks []api.Block, see func(id *int, at int)) {
	for at := range blocks {
		b := &blocks[at]
		for _, p := range b.Phis {
			for i := range p.Vals {
				see(&p.Vals[i], p.From[i])
			}
		}
		for _, in := range b.Code {
			for i := range in.Args {
				see(&in.Args[i], at)
			}
		}
		if b.Term.Op == api.Branch || b.Term.Op == api.Return {
			see(&b.Term.Val, at)
		}
	}
}

// Def tells of a value in which block it is made, of a parameter block 0, and its type.
type Def struct{ Block, Type int }

// Defs tells of each value. The function must be one that ir.Check takes.
func Defs(f api.Func) map[int]Def {
	defs := map[int]Def{}
	for id, typ := range f.Params {
		defs[id] = Def{0, typ}
	}
	for at, b := range f.Blocks {
		for _, p := range b.Phis {
			defs[p.Id] = Def{at, p.Type}
		}
		for _, in := range b.Code {
			if typ, _, _ := ir.Args(in.Op); typ != 0 {
				defs[in.Id] = Def{at, typ}
			}
		}
	}
	return defs
}

// FirstNew is one more than the greatest value. The function must be one that ir.Check takes.
func FirstNew(f api.Func) int {
	ids, _ := ir.Ids(f)
	if len(ids) == 0 {
		return 0
	}
	return ids[len(ids)-1] + 1
}
