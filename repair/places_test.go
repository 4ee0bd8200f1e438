package repair_test

import (
	"fmt"
	"testing"

	"strake/api"
	"strake/repair"
	"strake/sample"
)

// celled reads a function of a number and a flag, v0 and v1, and of one cell.
func celled(t *testing.T, lines ...string) api.Func {
	t.Helper()
	return sample.Read(t, append([]string{"func int bool arrays 0 cells 1"}, lines...)...)
}

func TestPlaces(t *testing.T) {
	wantPlaces(t, "rounds", rounds(t), [][]int{{1}, {1}, nil, nil}, api.OK)
	wantPlaces(t, "turns", turns(t), [][]int{nil}, api.OK)
	wantPlaces(t, "whole", sample.Whole(), make([][]int, 3), api.OK)
	wantPlaces(t, "bare", sample.Bare(), nil, api.OK)
	many := sample.Bare()
	many.Cells = api.MaxCells
	wantPlaces(t, "cells that nothing is done with", many, make([][]int, api.MaxCells), api.OK)
}

// TestPlacesNeeded: where two ways meet a cell's phi is needed just if the cell is.
func TestPlacesNeeded(t *testing.T) {
	for _, c := range []struct {
		what, ahead, behind string
		last                []string
		want                []int
	}{
		{"set on one way", "set 0 v0", "out v0", []string{"v2 = get 0", "return v2"}, []int{3}},
		{"set on both ways", "set 0 v0", "set 0 v0", []string{"v2 = get 0", "return v2"}, []int{3}},
		{"set on no way", "out v0", "out v0", []string{"v2 = get 0", "return v2"}, nil},
		{"not asked for", "set 0 v0", "out v0", []string{"return v0"}, nil},
		{"set ahead of what asks", "set 0 v0", "out v0", []string{"set 0 v0", "v2 = get 0", "return v2"}, nil},
		{"set behind what asks", "set 0 v0", "out v0", []string{"v2 = get 0", "set 0 v0", "return v2"}, []int{3}},
		{"asked for further on", "set 0 v0", "out v0", []string{"jump b4", "b4:", "v2 = get 0", "return v2"}, []int{3}},
		{"asked for further on, on one way", "set 0 v0", "out v0", []string{"branch v1 b4 b5", "b4:", "v2 = get 0", "return v2", "b5:", "trap 0"}, []int{3}},
		{"set further on ahead of what asks", "set 0 v0", "out v0", []string{"jump b4", "b4:", "set 0 v0", "v2 = get 0", "return v2"}, nil},
		{"asked for on a way back", "set 0 v0", "out v0", []string{"jump b4", "b4:", "v2 = get 0", "branch v1 b3 b5", "b5:", "trap 0"}, []int{3}},
	} {
		f := celled(t, append([]string{"b0:", "branch v1 b1 b2", "b1:", c.ahead, "jump b3", "b2:", c.behind, "jump b3", "b3:"}, c.last...)...)
		wantPlaces(t, c.what, f, [][]int{c.want}, api.OK)
	}
}

// TestPlacesOfPhis: where a phi stands a cell is as one that is set there.
func TestPlacesOfPhis(t *testing.T) {
	f := celled(t, "b0:", "branch v1 b1 b2", "b1:", "branch v1 b3 b4", "b2:", "set 0 v0", "jump b3",
		"b3:", "branch v1 b4 b5", "b4:", "jump b5", "b5:", "v2 = get 0", "return v2")
	wantPlaces(t, "phis on phis", f, [][]int{{3, 4, 5}}, api.OK)
	f.Blocks[4].Code = []api.Instr{{Op: api.OpSet, Id: -1, Args: []int{0}}}
	wantPlaces(t, "not needed on the way", f, [][]int{{3, 5}}, api.OK)
	f.Blocks[3].Code = []api.Instr{{Op: api.OpSet, Id: -1, Args: []int{0}}}
	wantPlaces(t, "not needed on both ways", f, [][]int{{5}}, api.OK)
}

// TestPlacesOfLoops: a block may lie in its own frontier.
func TestPlacesOfLoops(t *testing.T) {
	itself := celled(t, "b0:", "jump b1", "b1:", "v2 = get 0", "set 0 v0", "branch v1 b1 b2", "b2:", "return v2")
	wantPlaces(t, "a block that goes to itself", itself, [][]int{{1}}, api.OK)
	unset := celled(t, "b0:", "set 0 v0", "jump b1", "b1:", "v2 = get 0", "branch v1 b1 b2", "b2:", "return v2")
	wantPlaces(t, "a loop that sets nothing", unset, [][]int{nil}, api.OK)
	ahead := celled(t, "b0:", "jump b1", "b1:", "set 0 v0", "v2 = get 0", "branch v1 b1 b2", "b2:", "v3 = get 0", "return v3")
	wantPlaces(t, "a loop that sets it first", ahead, [][]int{nil}, api.OK)
	nest := celled(t, "b0:", "jump b1", "b1:", "jump b2", "b2:", "branch v1 b3 b4", "b3:", "set 0 v0", "jump b2",
		"b4:", "branch v1 b1 b5", "b5:", "v2 = get 0", "return v2")
	wantPlaces(t, "a nest", nest, [][]int{{1, 2}}, api.OK)
	twoHeads := celled(t, "b0:", "branch v1 b1 b2", "b1:", "branch v1 b2 b3", "b2:", "set 0 v0", "jump b1", "b3:", "v2 = get 0", "return v2")
	wantPlaces(t, "a loop with two ways in", twoHeads, [][]int{{1}}, api.OK)
}

// TestPlacesPlain holds many functions against the chapter's words.
func TestPlacesPlain(t *testing.T) {
	functions, places := 0, 0
	hold := func(what string, f api.Func) {
		want := plainPlaces(f)
		wantPlaces(t, what, f, want, api.OK)
		functions++
		for _, blocks := range want {
			places += len(blocks)
		}
	}
	eachCelled(hold)
	for seed := range 300 {
		hold(fmt.Sprint("busy ", seed), sample.Busy(2+seed%40, seed))
		hold(fmt.Sprint("celled ", seed), sample.Celled(2+seed%40, seed))
	}
	if functions < 10000 || places < 10000 {
		t.Errorf("just %d places in %d functions", places, functions)
	}
}

// TestPlacesGreat has functions of many blocks and cells, and holds one cell after the other.
func TestPlacesGreat(t *testing.T) {
	f := ladder(60, api.MaxCells)
	all := make([][]int, api.MaxCells)
	for cell := range all {
		all[cell] = upFrom(3, 58)
	}
	wantPlaces(t, "a ladder", f, all, api.OK)
	f.Blocks[60].Code = f.Blocks[60].Code[:10]
	clear(all[10:])
	wantPlaces(t, "a ladder that asks for some", f, all, api.OK)
	deep := nested(255)
	wantPlaces(t, "a nest", deep, [][]int{upFrom(1, 255)}, api.OK)
	if _, e := repair.Places(ladder(api.MaxBlocks-1, api.MaxCells)); e != api.OK {
		t.Errorf("error %d", e)
	}
}

// ladder goes from each of its blocks but the first to the next two; block 2 sets all cells, and the last one asks for all:
// the blocks from 3 on need phis of all of them.
func ladder(last, cells int) api.Func {
	f := api.Func{Params: []int{api.Int, api.Bool}, Cells: cells, Blocks: make([]api.Block, last+1)}
	f.Blocks[0].Term = sample.Jump(1)
	for b := 1; b < last; b++ {
		f.Blocks[b].Term = sample.Branch(1, b+1, min(b+2, last))
	}
	f.Blocks[last].Term = sample.Trap(0)
	for cell := range cells {
		useCells(&f.Blocks[2], api.Instr{Op: api.OpSet, Id: -1, Args: []int{0}, N: cell})
		useCells(&f.Blocks[last], api.Instr{Op: api.OpGet, Id: 2 + cell, N: cell})
	}
	return f
}

func useCells(b *api.Block, in api.Instr) { b.Code = append(b.Code, in) }

// nested is so many loops one in another; at the head of the innermost a cell is asked for, and set, and it is asked for
// behind all.
func nested(loops int) api.Func {
	f := sample.Nested(loops)
	f.Params, f.Cells = []int{api.Bool, api.Int}, 1
	useCells(&f.Blocks[loops], api.Instr{Op: api.OpGet, Id: 3})
	useCells(&f.Blocks[loops], api.Instr{Op: api.OpSet, Id: -1, Args: []int{1}})
	useCells(&f.Blocks[2*loops+1], api.Instr{Op: api.OpGet, Id: 2})
	f.Blocks[2*loops+1].Term = sample.Return(2)
	return f
}

// upFrom are so many numbers.
func upFrom(first, n int) []int {
	var all []int
	for i := range n {
		all = append(all, first+i)
	}
	return all
}
