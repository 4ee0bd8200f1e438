package strict_test

import (
	"slices"
	"testing"

	"strake/api"
	"strake/graph"
	"strake/strict"
)

// What a block of a dressed graph makes: idOf tells the Id.
const (
	phi = iota
	sum
	number
	flag
	kinds
)

// ahead is where a dressed graph's values that are no parameters begin.
const ahead = 10

func idOf(b, kind int) int { return ahead + kinds*b + kind }

// dressed makes a strict function of a graph whose blocks can all be come to. Its parameters are v0, a flag, and v1. Each
// block makes a phi (block 0 none) of the numbers of the blocks that go to it, the last of those first, the phi's sum with
// itself, a number and a flag, and ends by the flag.
func dressed(t *testing.T, ways api.Func) api.Func {
	t.Helper()
	preds, e := graph.Preds(ways)
	if e != api.OK {
		t.Fatalf("error %d", e)
	}
	f := api.Func{Params: []int{api.Bool, api.Int}}
	for b, block := range ways.Blocks {
		added, end := 1, block.Term
		var phis []api.Phi
		if b > 0 {
			added, phis = idOf(b, phi), []api.Phi{phiOf(b, preds[b])}
		}
		if end.Op == api.Branch || end.Op == api.Return {
			end.Val = idOf(b, flag)
		}
		f.Blocks = append(f.Blocks, api.Block{Phis: phis, Term: end, Code: []api.Instr{
			{Op: api.OpAdd, Id: idOf(b, sum), Args: []int{added, added}},
			{Op: api.OpConst, Id: idOf(b, number), N: b},
			{Op: api.OpOut, Id: -1, Args: []int{idOf(b, number)}},
			{Op: api.OpFlag, Id: idOf(b, flag), N: 1},
		}})
	}
	return f
}

func phiOf(b int, preds []int) api.Phi {
	p := api.Phi{Id: idOf(b, phi), Type: api.Int}
	for _, from := range slices.Backward(preds) {
		p.From, p.Vals = append(p.From, from), append(p.Vals, idOf(from, number))
	}
	return p
}

// numbersOf and flagsOf are the values of a dressed graph.
func numbersOf(f api.Func) []int {
	all := []int{1}
	for b := range f.Blocks {
		if b > 0 {
			all = append(all, idOf(b, phi))
		}
		all = append(all, idOf(b, sum), idOf(b, number))
	}
	return all
}

func flagsOf(f api.Func) []int {
	all := []int{0}
	for b := range f.Blocks {
		all = append(all, idOf(b, flag))
	}
	return all
}

// numberUses and flagUses are the places of all uses of a dressed graph.
func numberUses(f api.Func) []*int {
	var all []*int
	for _, b := range f.Blocks {
		for _, p := range b.Phis {
			all = append(all, places(p.Vals)...)
		}
		for _, in := range b.Code {
			all = append(all, places(in.Args)...)
		}
	}
	return all
}

func places(list []int) []*int {
	var all []*int
	for i := range list {
		all = append(all, &list[i])
	}
	return all
}

func flagUses(f api.Func) []*int {
	var all []*int
	for b := range f.Blocks {
		if end := &f.Blocks[b].Term; end.Op == api.Branch || end.Op == api.Return {
			all = append(all, &end.Val)
		}
	}
	return all
}

func wantCheck(t *testing.T, what string, f api.Func, block int, e api.Errno) {
	t.Helper()
	if gotBlock, got := strict.Check(f); gotBlock != block || got != e {
		t.Errorf("%s: Check answers %d, %d, want %d, %d", what, gotBlock, got, block, e)
	}
}

func wantDef(t *testing.T, what string, f api.Func, id, block, at int, e api.Errno) {
	t.Helper()
	if gotBlock, gotAt, got := strict.DefOf(f, id); gotBlock != block || gotAt != at || got != e {
		t.Errorf("%s: DefOf %d answers %d, %d, %d, want %d, %d, %d", what, id, gotBlock, gotAt, got, block, at, e)
	}
}
