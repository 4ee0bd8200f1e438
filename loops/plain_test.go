package loops_test

import (
	"slices"

	"strake/api"
	"strake/graph"
	"strake/sample"
)

// plain tells loops by the chapter's words alone, of a strict function: dodged[a] are the blocks that ways come to without
// going through a.
type plain struct {
	api.Func
	dodged [][]bool
}

func plainOf(f api.Func) plain {
	p := plain{Func: f}
	for b := range f.Blocks {
		p.dodged = append(p.dodged, sample.Without(f, b))
	}
	return p
}

func (p plain) goesTo(a, b int) bool { return slices.Contains(p.Blocks[a].Term.To, b) }

func (p plain) wayBack(from, to int) bool { return p.goesTo(from, to) && !p.dodged[to][from] }

// those are the blocks, rising, of which something holds.
func (p plain) those(holds func(b int) bool) []int {
	var all []int
	for b := range p.Blocks {
		if holds(b) {
			all = append(all, b)
		}
	}
	return all
}

func (p plain) forest() []api.Loop {
	var all []api.Loop
	for head := range p.Blocks {
		latches := p.those(func(b int) bool { return p.wayBack(b, head) })
		if len(latches) == 0 {
			continue
		}
		blocks := p.those(func(b int) bool { return b == head || p.comesToOne(b, latches, head) })
		exits := p.those(func(b int) bool {
			return !slices.Contains(blocks, b) && slices.ContainsFunc(blocks, func(a int) bool { return p.goesTo(a, b) })
		})
		all = append(all, api.Loop{Head: head, Blocks: blocks, Latches: latches, Exits: exits})
	}
	for i := range all {
		all[i].Parent = parentOf(all, i)
	}
	return all
}

// comesToOne: can one of some blocks be come to from b without going through cut?
func (p plain) comesToOne(b int, some []int, cut int) bool {
	seen := make([]bool, len(p.Blocks))
	open := []int{b}
	for len(open) > 0 {
		b := open[0]
		open = open[1:]
		if b == cut || seen[b] {
			continue
		}
		if slices.Contains(some, b) {
			return true
		}
		seen[b] = true
		open = append(open, p.Blocks[b].Term.To...)
	}
	return false
}

func parentOf(all []api.Loop, loop int) int {
	parent := -1
	for i, l := range all {
		if i != loop && hasAll(l.Blocks, all[loop].Blocks) && (parent < 0 || len(l.Blocks) < len(all[parent].Blocks)) {
			parent = i
		}
	}
	return parent
}

func hasAll(blocks, some []int) bool {
	return !slices.ContainsFunc(some, func(b int) bool { return !slices.Contains(blocks, b) })
}

func (p plain) depths() []int {
	depths := make([]int, len(p.Blocks))
	for _, l := range p.forest() {
		for _, b := range l.Blocks {
			depths[b]++
		}
	}
	return depths
}

func (p plain) odd() []int {
	order, _ := graph.Order(p.Func)
	return p.those(func(b int) bool {
		ahead := order[:slices.Index(order, b)]
		return len(p.those(func(a int) bool { return p.goesTo(a, b) && !p.wayBack(a, b) && !slices.Contains(ahead, a) })) > 0
	})
}
