package graph

import (
	"slices"

	"strake/api"
)

// noValue stands where an end has no value.
const noValue = -1

// gone is the new number of a block that is left out.
const gone = -1

// prune changes the graph's function in place: the graph must be of a copy.
func (g graph) prune() api.Func {
	now := g.numbersNow()
	// A list of its own: one that is cut short would keep blocks that are gone, and some twice, in its spare room.
	var kept []api.Block
	for b, block := range g.Blocks {
		if now[b] != gone {
			renumber(block, now)
			kept = append(kept, block)
		}
	}
	g.Blocks = kept
	return g.Func
}

// numbersNow: of each block its number when those that can't be come to are left out.
func (g graph) numbersNow() []int {
	now := make([]int, len(g.Blocks))
	left := 0
	for b, come := range g.reach() {
		now[b] = gone
		if come {
			now[b] = left
			left++
		}
	}
	return now
}

// renumber writes new numbers into the lists of a block that can be come to, and so goes to no block that is gone.
func renumber(b api.Block, now []int) {
	for i, to := range b.Term.To {
		b.Term.To[i] = now[to]
	}
	for i := range b.Phis {
		renumberPhi(&b.Phis[i], now)
	}
}

// renumberPhi leaves out what comes from blocks that are gone.
func renumberPhi(p *api.Phi, now []int) {
	left := 0
	for i, from := range p.From {
		if now[from] != gone {
			p.From[left], p.Vals[left] = now[from], p.Vals[i]
			left++
		}
	}
	p.From, p.Vals = p.From[:left], p.Vals[:left]
}

// split changes the graph's function in place: the graph must be of a copy, and have the edge.
func (g graph) split(from, k int) api.Func {
	ends := g.Blocks[from].Term.To
	to, middle := ends[k], len(g.Blocks)
	ends[k] = middle
	stays := slices.Contains(ends, to)
	for i := range g.Blocks[to].Phis {
		comeThrough(&g.Blocks[to].Phis[i], from, middle, stays)
	}
	g.Blocks = append(g.Blocks, api.Block{Term: api.Term{Op: api.Jump, Val: noValue, To: []int{to}}})
	return g.Func
}

// comeThrough tells a phi of the block in the middle: it comes in place of from, unless from still goes there beside it.
func comeThrough(p *api.Phi, from, middle int, stays bool) {
	at := slices.Index(p.From, from)
	switch {
	case at < 0:
		// Only in strict form has a phi something from each block that goes to it.
	case stays:
		p.From, p.Vals = append(p.From, middle), append(p.Vals, p.Vals[at])
	default:
		p.From[at] = middle
	}
}
