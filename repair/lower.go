package repair

import (
	"slices"

	"strake/api"
	"strake/fresh"
	"strake/values"
)

// noValue is the Id of an instruction that makes nothing.
const noValue = -1

// lowerer makes cells of phis; its function is a copy, which it changes in place.
type lowerer struct {
	api.Func
	next      int           // the next new value
	zero, one int           // what cells hold for flags
	heads     [][]api.Instr // of each block what comes ahead of its code
	tails     [][]api.Instr // of each block what comes behind its code
}

func countPhis(f api.Func) int {
	n := 0
	for _, b := range f.Blocks {
		n += len(b.Phis)
	}
	return n
}

func hasFlagPhi(f api.Func) bool {
	return slices.ContainsFunc(f.Blocks, func(b api.Block) bool {
		return slices.ContainsFunc(b.Phis, func(p api.Phi) bool { return p.Type == api.Bool })
	})
}

// lowered may answer a function that is beyond the limits.
func lowered(f api.Func) api.Func {
	n := len(f.Blocks)
	l := lowerer{Func: fresh.Func(f), next: values.FirstNew(f), heads: make([][]api.Instr, n), tails: make([][]api.Instr, n)}
	if hasFlagPhi(f) {
		l.zero, l.one = l.number(0), l.number(1)
	}
	for at := range l.Blocks {
		for _, p := range l.Blocks[at].Phis {
			l.lowerPhi(at, p)
		}
	}
	for at := range l.Blocks {
		b := &l.Blocks[at]
		b.Phis, b.Code = nil, slices.Concat(l.heads[at], b.Code, l.tails[at])
	}
	return l.Func
}

// lowerPhi needs no block between two for what comes from one of several ways: a phi's cell is its own, and asked for
// right behind the block that it was set in last.
func (l *lowerer) lowerPhi(at int, p api.Phi) {
	cell := l.Cells
	l.Cells++
	for i, from := range p.From {
		l.set(from, cell, p.Vals[i], p.Type)
	}
	l.get(at, cell, p.Id, p.Type)
}

func (l *lowerer) set(at, cell, val, typ int) {
	if typ == api.Bool {
		val = l.add(&l.tails[at], api.Instr{Op: api.OpSelect, Args: []int{val, l.one, l.zero}})
	}
	l.tails[at] = append(l.tails[at], api.Instr{Op: api.OpSet, Id: noValue, Args: []int{val}, N: cell})
}

// get makes the value that the phi made.
func (l *lowerer) get(at, cell, id, typ int) {
	if typ == api.Int {
		l.heads[at] = append(l.heads[at], api.Instr{Op: api.OpGet, Id: id, N: cell})
		return
	}
	number := l.add(&l.heads[at], api.Instr{Op: api.OpGet, N: cell})
	l.heads[at] = append(l.heads[at], api.Instr{Op: api.OpEq, Id: id, Args: []int{number, l.one}})
}

// number makes a number that all blocks may use.
func (l *lowerer) number(n int) int { return l.add(&l.heads[0], api.Instr{Op: api.OpConst, N: n}) }

// add adds an instruction that makes a new value.
func (l *lowerer) add(code *[]api.Instr, in api.Instr) int {
	in.Id = l.next
	l.next++
	*code = append(*code, in)
	return in.Id
}
