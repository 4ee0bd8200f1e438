package strict

import (
	"slices"

	"strake/api"
	"strake/dom"
	"strake/graph"
)

// function is a function that is held against strict form.
type function struct {
	api.Func
	tree
	preds [][]int       // of each block those that go to it, rising
	made  map[int]place // of each value where it is made
}

func functionOf(f api.Func) (function, api.Errno) {
	idoms, e := dom.Idoms(f)
	if e != api.OK {
		return function{}, e
	}
	preds, e := graph.Preds(f)
	if e != api.OK {
		return function{}, e
	}
	return function{f, treeOf(idoms), preds, placesOf(f)}, api.OK
}

// fault holds all blocks against one rule ahead of the next: an earlier rule's error comes ahead, wherever it stands.
func (s function) fault() (int, api.Errno) {
	for _, rule := range []struct {
		holds func(b int) bool
		e     api.Errno
	}{
		{s.comeTo, api.ErrDead},
		{s.phisFit, api.ErrPhi},
		{s.usesFit, api.ErrUse},
	} {
		for b := range s.Blocks {
			if !rule.holds(b) {
				return b, rule.e
			}
		}
	}
	return 0, api.OK
}

func (s function) phisFit(b int) bool {
	for _, p := range s.Blocks[b].Phis {
		if !areJust(p.From, s.preds[b]) {
			return false
		}
	}
	return true
}

// areJust tells whether blocks, none of which stands twice, are those of a rising list, in any order.
func areJust(blocks, rising []int) bool {
	if len(blocks) != len(rising) {
		return false
	}
	for _, b := range blocks {
		if _, found := slices.BinarySearch(rising, b); !found {
			return false
		}
	}
	return true
}

// usesFit takes a use in a phi for one at the end of the block that it is come from: there the value has to be made.
func (s function) usesFit(b int) bool {
	block := s.Blocks[b]
	for _, p := range block.Phis {
		for i, id := range p.Vals {
			if !s.comesAhead(id, endOf(s.Func, p.From[i])) {
				return false
			}
		}
	}
	for i, in := range block.Code {
		for _, id := range in.Args {
			if !s.comesAhead(id, place{b, i}) {
				return false
			}
		}
	}
	return !usesValue(block.Term) || s.comesAhead(block.Term.Val, endOf(s.Func, b))
}

func usesValue(t api.Term) bool { return t.Op == api.Branch || t.Op == api.Return }

// comesAhead needs no look at parameters: the front of block 0, where they are made, is ahead of all.
func (s function) comesAhead(id int, use place) bool {
	made := s.made[id]
	if made.block == use.block {
		return made.at < use.at
	}
	return s.dominates(made.block, use.block)
}
