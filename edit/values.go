package edit

import (
	"strake/api"
	"strake/fresh"
	"strake/values"
)

// noValue is the Id of an instruction that makes nothing.
const noValue = -1

func replaced(f api.Func, old, now int) api.Func {
	g := fresh.Func(f)
	changeUses(g.Blocks, func(id int) int {
		if id == old {
			return now
		}
		return id
	})
	return g
}

// changeUses changes blocks in place: they must be a copy.
func changeUses(blocks []api.Block, change func(id int) int) {
	values.EachUse(blocks, func(id *int) { *id = change(*id) })
}

// eachMade shows see the Id of each value that blocks make: of each block of the phis, then of the instructions.
func eachMade(blocks []api.Block, see func(id *int)) {
	for _, b := range blocks {
		for i := range b.Phis {
			see(&b.Phis[i].Id)
		}
		for i := range b.Code {
			if in := &b.Code[i]; in.Id != noValue {
				see(&in.Id)
			}
		}
	}
}

// renumberValues gives the values that blocks make Ids from first on, in place, and tells of each value what it is now;
// those that are not made there stay what they are.
func renumberValues(blocks []api.Block, first int) (now func(id int) int) {
	made := map[int]int{}
	eachMade(blocks, func(id *int) {
		made[*id] = first + len(made)
		*id = made[*id]
	})
	now = func(id int) int {
		if n, ok := made[id]; ok {
			return n
		}
		return id
	}
	changeUses(blocks, now)
	return now
}
