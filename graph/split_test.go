package graph_test

import (
	"fmt"
	"math"
	"slices"
	"testing"

	"strake/api"
	"strake/graph"
	"strake/sample"
)

func wantSplit(t *testing.T, what string, f api.Func, from, k int, want api.Func, wantE api.Errno) {
	t.Helper()
	if got, e := graph.Split(f, from, k); !sample.Same(got, want) || e != wantE {
		t.Errorf("%s: Split at %d, %d answers %v, %d, want %v, %d", what, from, k, got, e, want, wantE)
	}
}

func TestSplit(t *testing.T) {
	two := func(first, second, phi1, phi2 string, more ...string) api.Func {
		return sample.Flagged(t, append([]string{
			"b0:", "v1 = const 1", "v2 = flag 0", "branch v0 " + first,
			"b1:", "v3 = phi int " + phi1, "v4 = phi bool " + phi2, "branch v4 " + second,
			"b2:", "v5 = phi int b1 v3", "return v5",
		}, more...)...)
	}
	f := two("b1 b2", "b1 b2", "b1 v3 b0 v1", "b0 v2 b1 v0")
	wantSplit(t, "from 0", f, 0, 0, two("b3 b2", "b1 b2", "b1 v3 b3 v1", "b3 v2 b1 v0", "b3:", "jump b1"), api.OK)
	wantSplit(t, "phis with nothing from there", f, 0, 1, two("b1 b3", "b1 b2", "b1 v3 b0 v1", "b0 v2 b1 v0", "b3:", "jump b2"), api.OK)
	wantSplit(t, "back to itself", f, 1, 0, two("b1 b2", "b3 b2", "b3 v3 b0 v1", "b0 v2 b3 v0", "b3:", "jump b1"), api.OK)
	f = two("b1 b1", "b1 b1", "b1 v3 b0 v1", "b0 v2 b1 v0")
	wantSplit(t, "one of two", f, 0, 0, two("b3 b1", "b1 b1", "b1 v3 b0 v1 b3 v1", "b0 v2 b1 v0 b3 v2", "b3:", "jump b1"), api.OK)
	wantSplit(t, "the other one of two", f, 0, 1, two("b1 b3", "b1 b1", "b1 v3 b0 v1 b3 v1", "b0 v2 b1 v0 b3 v2", "b3:", "jump b1"), api.OK)
	wantSplit(t, "one of two, back to itself", f, 1, 1, two("b1 b1", "b1 b3", "b1 v3 b0 v1 b3 v3", "b0 v2 b1 v0 b3 v0", "b3:", "jump b1"), api.OK)
	f = two("b1 b2", "b2 b1", "b2 v1", "b2 v2 b1 v0")
	wantSplit(t, "where just some phis have something", f, 1, 1, two("b1 b2", "b2 b3", "b2 v1", "b2 v2 b3 v0", "b3:", "jump b1"), api.OK)
}

// TestSplitTwice: the block in the middle may be split off, too, and what goes on behind an edge that was split.
func TestSplitTwice(t *testing.T) {
	f := sample.Flagged(t, "b0:", "branch v0 b1 b1", "b1:", "v1 = phi bool b0 v0", "return v1")
	f, _ = graph.Split(f, 0, 1)
	wantSplit(t, "the one that was left", f, 0, 0, sample.Flagged(t,
		"b0:", "branch v0 b3 b2", "b1:", "v1 = phi bool b3 v0 b2 v0", "return v1", "b2:", "jump b1", "b3:", "jump b1"), api.OK)
	wantSplit(t, "the one that was split", f, 0, 1, sample.Flagged(t,
		"b0:", "branch v0 b1 b3", "b1:", "v1 = phi bool b0 v0 b2 v0", "return v1", "b2:", "jump b1", "b3:", "jump b2"), api.OK)
	wantSplit(t, "the one behind", f, 2, 0, sample.Flagged(t,
		"b0:", "branch v0 b1 b2", "b1:", "v1 = phi bool b0 v0 b3 v0", "return v1", "b2:", "jump b3", "b3:", "jump b1"), api.OK)
}

// TestSplitUnreached: whether a block can be come to does not matter.
func TestSplitUnreached(t *testing.T) {
	wantSplit(t, "an edge that nothing goes over", sample.Flagged(t, "b0:", "return v0", "b1:", "v1 = phi bool b1 v0 b0 v0", "jump b1"), 1, 0,
		sample.Flagged(t, "b0:", "return v0", "b1:", "v1 = phi bool b2 v0 b0 v0", "jump b2", "b2:", "jump b1"), api.OK)
}

func TestSplitNoEdge(t *testing.T) {
	f := cross(t)
	for _, from := range append(sample.Edges(), 10, math.MinInt32) {
		for _, k := range append(sample.Edges(), math.MinInt32) {
			there := from >= 0 && from < len(f.Blocks) && k >= 0 && k < len(f.Blocks[from].Term.To)
			if got, e := graph.Split(f, from, k); (e == api.OK) != there || (len(got.Blocks) == 10) != there {
				t.Errorf("Split at %d, %d answers %v, %d", from, k, got, e)
			} else if !there {
				wantSplit(t, "no such edge", f, from, k, api.Func{}, api.ErrNone)
			}
		}
	}
	wantSplit(t, "a trap", sample.Bare(), 0, 0, api.Func{}, api.ErrNone)
}

// wantFull asks whether an edge can be split where a function has so much: ErrNone comes ahead of ErrForm.
func wantFull(t *testing.T, what string, f api.Func, full bool) {
	t.Helper()
	got, e := graph.Split(f, 0, 0)
	if full {
		wantSplit(t, what, f, 0, 0, api.Func{}, api.ErrForm)
	} else if e != api.OK || len(got.Blocks) != len(f.Blocks)+1 {
		t.Errorf("%s: Split answers error %d, and %d blocks", what, e, len(got.Blocks))
	}
	for _, at := range [][2]int{{0, 1}, {0, -1}, {-1, 0}, {len(f.Blocks), 0}, {len(f.Blocks) - 1, 0}} {
		wantSplit(t, what, f, at[0], at[1], api.Func{}, api.ErrNone)
	}
}

func TestSplitLimits(t *testing.T) {
	for _, blocks := range []int{2, 510, 511, 512} {
		wantFull(t, fmt.Sprint(blocks, " blocks"), sample.Line(blocks), blocks == 512)
	}
	for _, size := range []int{4094, 4095, 4096} {
		for _, blocks := range []int{2, 511, 512} {
			f := sample.Line(blocks)
			for id := range size - blocks {
				at := &f.Blocks[1+id%(blocks-1)]
				if id%3 == 0 {
					at.Phis = append(at.Phis, api.Phi{Id: id, Type: api.Int})
				} else {
					at.Code = append(at.Code, api.Instr{Op: api.OpConst, Id: id})
				}
			}
			wantFull(t, fmt.Sprint(blocks, " blocks, ", size, " in all"), f, blocks == 512 || size == 4096)
		}
	}
}

// TestSplitOfEachGraph makes what is wanted anew, of the phis' Froms: they are 3, 2, 1, 0 ahead.
func TestSplitOfEachGraph(t *testing.T) {
	sample.EachGraph(4, func(what string, f api.Func) {
		for from := range f.Blocks {
			for k, to := range f.Blocks[from].Term.To {
				want := f
				want.Blocks = append(slices.Clone(f.Blocks), api.Block{Term: sample.Jump(to)})
				ends := slices.Clone(f.Blocks[from].Term.To)
				ends[k] = 4
				want.Blocks[from].Term.To = ends
				phi := f.Blocks[to].Phis[0]
				phi.From = []int{3, 2, 1, 0}
				if len(ends) == 2 && ends[1-k] == to {
					phi.From, phi.Vals = append(phi.From, 4), make([]int, 5)
				} else {
					phi.From[3-from] = 4
				}
				want.Blocks[to].Phis = []api.Phi{phi}
				wantSplit(t, what, f, from, k, want, api.OK)
			}
		}
	})
}
