package ir

import "strake/api"

// noValue stands where an instruction or an end has no value.
const noValue = -1

// formed tells whether the function is formed, and writes down the types of its values on the way.
func (l look) formed() bool {
	if !l.withinLimits() || !l.defineParams() {
		return false
	}
	// Block 0 is come to from nowhere, so that a phi there would have no value.
	if len(l.Blocks[0].Phis) != 0 {
		return false
	}
	for _, b := range l.Blocks {
		if !l.formedBlock(b) {
			return false
		}
	}
	return true
}

// withinLimits asks for the lengths ahead of all else: what comes behind it goes through short lists.
func (l look) withinLimits() bool {
	return len(l.Params) <= api.MaxParams &&
		within(l.Arrays, 0, api.MaxArrays) &&
		within(l.Cells, 0, api.MaxCells) &&
		within(len(l.Blocks), 1, api.MaxBlocks) &&
		l.size() <= api.MaxCode
}

func (l look) defineParams() bool {
	for id, typ := range l.Params {
		if !isType(typ) {
			return false
		}
		l.types[id] = typ
	}
	return true
}

// define writes down the value of a phi or an instruction, if it may have that id.
func (l look) define(id, typ int) bool {
	if _, taken := l.types[id]; taken || !within(id, len(l.Params), api.MaxId-1) {
		return false
	}
	l.types[id] = typ
	return true
}

func (l look) formedBlock(b api.Block) bool {
	for _, p := range b.Phis {
		if !l.formedPhi(p) {
			return false
		}
	}
	for _, in := range b.Code {
		if !l.formedInstr(in) {
			return false
		}
	}
	return l.formedTerm(b.Term)
}

func (l look) formedPhi(p api.Phi) bool {
	return isType(p.Type) &&
		len(p.Vals) == len(p.From) &&
		l.areBlocksOnce(p.From) &&
		l.define(p.Id, p.Type)
}

func (l look) formedInstr(in api.Instr) bool {
	makes, takes, ok := Args(in.Op)
	if !ok || len(in.Args) != len(takes) || !l.fitsN(in.Op, in.N) {
		return false
	}
	if makes == 0 {
		return in.Id == noValue
	}
	return l.define(in.Id, makes)
}

// fitsN tells whether an instruction's N may be what it is.
func (l look) fitsN(op, n int) bool {
	switch op {
	case api.OpConst:
		return true
	case api.OpFlag:
		return within(n, 0, 1)
	case api.OpLen, api.OpLoad, api.OpStore, api.OpFetch, api.OpPut:
		return within(n, 0, l.Arrays-1)
	case api.OpGet, api.OpSet:
		return within(n, 0, l.Cells-1)
	}
	return n == 0
}

// formedTerm leaves Val of Branch and Return open: of no value it is a fault of use, not of form.
func (l look) formedTerm(t api.Term) bool {
	if !l.areTargets(t.To) {
		return false
	}
	switch t.Op {
	case api.Jump:
		return len(t.To) == 1 && t.Val == noValue && t.N == 0
	case api.Branch:
		return len(t.To) == 2 && t.N == 0
	case api.Return:
		return len(t.To) == 0 && t.N == 0
	case api.Trap:
		return len(t.To) == 0 && t.Val == noValue && t.N >= 0
	}
	return false
}

// areTargets leaves block 0 out: no block goes to it.
func (l look) areTargets(to []int) bool {
	for _, b := range to {
		if !within(b, 1, len(l.Blocks)-1) {
			return false
		}
	}
	return true
}

// areBlocksOnce tells whether all in a list are blocks, and none stands there twice.
func (l look) areBlocksOnce(list []int) bool {
	var seen [api.MaxBlocks]bool
	for _, b := range list {
		if !within(b, 0, len(l.Blocks)-1) || seen[b] {
			return false
		}
		seen[b] = true
	}
	return true
}

func isType(t int) bool { return t == api.Int || t == api.Bool }

func within(n, least, most int) bool { return least <= n && n <= most }
