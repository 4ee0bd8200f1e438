package canon

import (
	"slices"

	"strake/api"
	"strake/fresh"
	"strake/values"
)

// noValue stands where an end has no value.
const noValue = -1

// changed is a copy of a function, which funnels are laid into.
type changed struct {
	made api.Func
	next int // the next new value
}

func changedOf(f api.Func) changed { return changed{fresh.Func(f), values.FirstNew(f)} }

// funnel lays a new block ahead of one, that some of those that go there go through from now on.
func (c *changed) funnel(to int, from ...int) int {
	added := len(c.made.Blocks)
	b := api.Block{Term: api.Term{Op: api.Jump, Val: noValue, To: []int{to}}}
	moved := make([]bool, added)
	for _, p := range from {
		moved[p] = true
		redirect(c.made.Blocks[p].Term.To, to, added)
	}
	phis := c.made.Blocks[to].Phis
	for i := range phis {
		taken := take(&phis[i], func(from int) bool { return moved[from] })
		phis[i].From, phis[i].Vals = append(phis[i].From, added), append(phis[i].Vals, c.gather(&b, taken))
	}
	c.made.Blocks = append(c.made.Blocks, b)
	return added
}

func redirect(to []int, old, now int) {
	for i := range to {
		if to[i] == old {
			to[i] = now
		}
	}
}

// take takes out of a phi, in place, what it has from some blocks.
func take(p *api.Phi, moved func(from int) bool) api.Phi {
	taken, kept := api.Phi{Type: p.Type}, 0
	for i, from := range p.From {
		if moved(from) {
			taken.From, taken.Vals = append(taken.From, from), append(taken.Vals, p.Vals[i])
		} else {
			p.From[kept], p.Vals[kept] = from, p.Vals[i]
			kept++
		}
	}
	p.From, p.Vals = p.From[:kept], p.Vals[:kept]
	return taken
}

// gather is the value in a funnel of what a phi had from the blocks that go there now. Just where those are several
// values a new one is needed: one alone comes ahead of all those blocks, and so of the funnel.
func (c *changed) gather(b *api.Block, p api.Phi) int {
	one := p.Vals[0]
	if !slices.ContainsFunc(p.Vals, func(val int) bool { return val != one }) {
		return one
	}
	p.Id = c.next
	c.next++
	b.Phis = append(b.Phis, p)
	return p.Id
}
