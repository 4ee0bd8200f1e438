package strict_test

import (
	"slices"

	"strake/api"
	"strake/ir"
	"strake/sample"
)

// plain tells strict form by the chapter's words alone: dodged[a] are the blocks that ways come to without going through a.
type plain struct {
	api.Func
	reach  []bool
	dodged [][]bool
	made   map[int][2]int
}

// plainOf takes a function that ir.Check takes. Its uses may be turned to other values behind it.
func plainOf(f api.Func) plain {
	p := plain{Func: f, reach: sample.Without(f, -1), made: map[int][2]int{}}
	for id := range f.Params {
		p.made[id] = [2]int{0, -1}
	}
	for b, block := range f.Blocks {
		p.dodged = append(p.dodged, sample.Without(f, b))
		for _, phi := range block.Phis {
			p.made[phi.Id] = [2]int{b, -1}
		}
		for at, in := range block.Code {
			if makes, _, _ := ir.Args(in.Op); makes != 0 {
				p.made[in.Id] = [2]int{b, at}
			}
		}
	}
	return p
}

// dominates: can a and b be come to, and each way to b goes through a?
func (p plain) dominates(a, b int) bool { return p.reach[a] && p.reach[b] && !p.dodged[a][b] }

// check is what strict.Check has to answer.
func (p plain) check() (int, api.Errno) {
	if b := slices.Index(p.reach, false); b >= 0 {
		return b, api.ErrDead
	}
	for b := range p.Blocks {
		for _, phi := range p.Blocks[b].Phis {
			if !p.comesFromJust(phi.From, b) {
				return b, api.ErrPhi
			}
		}
	}
	for b := range p.Blocks {
		if !p.usesComeBehind(b) {
			return b, api.ErrUse
		}
	}
	return 0, api.OK
}

func (p plain) comesFromJust(from []int, b int) bool {
	for a := range p.Blocks {
		if slices.Contains(from, a) != slices.Contains(p.Blocks[a].Term.To, b) {
			return false
		}
	}
	return true
}

func (p plain) usesComeBehind(b int) bool {
	for _, phi := range p.Blocks[b].Phis {
		for i, id := range phi.Vals {
			if !p.isParam(id) && !p.dominates(p.made[id][0], phi.From[i]) {
				return false
			}
		}
	}
	for at, in := range p.Blocks[b].Code {
		for _, id := range in.Args {
			if !p.isAhead(id, b, at) {
				return false
			}
		}
	}
	end := p.Blocks[b].Term
	return end.Op == api.Jump || end.Op == api.Trap || p.isAhead(end.Val, b, len(p.Blocks[b].Code))
}

func (p plain) isAhead(id, b, at int) bool {
	made := p.made[id]
	return p.isParam(id) || p.dominates(made[0], b) && (made[0] != b || made[1] < at)
}

func (p plain) isParam(id int) bool { return id < len(p.Params) }
