package dom_test

import (
	"strake/api"
	"strake/sample"
)

// plain tells dominance by the chapter's words alone: dom[a][b], if a dominates b.
type plain struct {
	f   api.Func
	dom [][]bool
}

func plainOf(f api.Func) plain {
	p := plain{f, make([][]bool, len(f.Blocks))}
	reach := sample.Without(f, -1)
	for a := range p.dom {
		p.dom[a] = make([]bool, len(f.Blocks))
		rest := sample.Without(f, a)
		for b := range p.dom[a] {
			p.dom[a][b] = reach[a] && reach[b] && !rest[b]
		}
	}
	return p
}

// lowest: of some blocks the one that all the others dominate; -1: there is none.
func (p plain) lowest(blocks []int) int {
	for _, b := range blocks {
		all := true
		for _, a := range blocks {
			all = all && p.dom[a][b]
		}
		if all {
			return b
		}
	}
	return -1
}

func (p plain) idoms() []int {
	var all []int
	for b := range p.dom {
		var above []int
		for a := range p.dom {
			if a != b && p.dom[a][b] {
				above = append(above, a)
			}
		}
		all = append(all, p.lowest(above))
	}
	return all
}

func (p plain) frontiers() [][]int {
	all := make([][]int, len(p.dom))
	for a := range p.dom {
		for b := range p.dom {
			if p.dom[a][b] && a != b {
				continue
			}
			if p.dominatesAPred(a, b) {
				all[a] = append(all[a], b)
			}
		}
	}
	return all
}

func (p plain) dominatesAPred(a, b int) bool {
	for from, block := range p.f.Blocks {
		for _, to := range block.Term.To {
			if to == b && p.dom[a][from] {
				return true
			}
		}
	}
	return false
}

// meet: -1 stands for ErrNone.
func (p plain) meet(blocks []int) int {
	var above []int
	for a := range p.dom {
		all := true
		for _, b := range blocks {
			all = all && p.dom[a][b]
		}
		if all {
			above = append(above, a)
		}
	}
	return p.lowest(above)
}
