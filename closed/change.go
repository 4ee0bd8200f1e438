package closed

import (
	"maps"
	"slices"

	"strake/api"
	"strake/fresh"
	"strake/ir"
	"strake/values"
)

// changed is a copy of a function, which phis are laid into.
type changed struct {
	api.Func
	next   int           // the next new value
	room   int           // how many phis may come
	stands map[int][]int // of each value that was closed what stands for it at each block's end
}

func changedOf(f api.Func) changed {
	size, _ := ir.Size(f) // Of a strict function it is told.
	next := values.FirstNew(f)
	return changed{fresh.Func(f), next, min(api.MaxCode-size, api.MaxId-next), map[int][]int{}}
}

func closed(n nest) (api.Func, api.Errno) {
	g := changedOf(n.Func)
	open := n.open()
	for _, id := range slices.Sorted(maps.Keys(open)) {
		// What one value needs is told without the phis of another, as they make values of their own.
		if !g.lay(id, n.defs[id].Type, closerOf(n, n.defs[id].Block, open[id])) {
			return api.Func{}, api.ErrBudget
		}
	}
	values.EachUseAt(g.Blocks, g.turn)
	return g.Func, api.OK
}

// lay lays the phis that make a value anew, if there is room for them. They get the value itself for now: their uses of it
// are turned as all others are.
func (g *changed) lay(id, typ int, c closer) bool {
	ids := slices.Repeat([]int{id}, len(c.made))
	for b := range ids {
		if !c.anew(b) {
			continue
		}
		if g.room == 0 {
			return false
		}
		p := api.Phi{Id: g.next, Type: typ, From: slices.Clone(c.preds[b]), Vals: slices.Repeat([]int{id}, len(c.preds[b]))}
		g.Blocks[b].Phis = append(g.Blocks[b].Phis, p)
		ids[b] = g.next
		g.next++
		g.room--
	}
	stands := make([]int, len(ids))
	for b, made := range c.made {
		stands[b] = ids[made]
	}
	g.stands[id] = stands
	return true
}

// turn makes a use of a value one of what stands for it there.
func (g *changed) turn(id *int, at int) {
	if stands, ok := g.stands[*id]; ok {
		*id = stands[at]
	}
}
