package graph_test

import (
	"slices"
	"testing"

	"strake/api"
	"strake/graph"
	"strake/ir"
	"strake/sample"
)

func wantPrune(t *testing.T, what string, f, want api.Func, wantE api.Errno) {
	t.Helper()
	if got, e := graph.Prune(f); !sample.Same(got, want) || e != wantE {
		t.Errorf("%s: Prune answers %v, %d, want %v, %d", what, got, e, want, wantE)
	}
}

func TestPrune(t *testing.T) {
	wantPrune(t, "bare", sample.Bare(), sample.Bare(), api.OK)
	wantPrune(t, "a line", sample.Line(api.MaxBlocks), sample.Line(api.MaxBlocks), api.OK)
	rich := sample.Rich()
	rich.Blocks = rich.Blocks[:5]
	wantPrune(t, "rich", sample.Rich(), rich, api.OK)
	wantPrune(t, "rich, once more", rich, rich, api.OK)
	wantPrune(t, "cross", cross(t), sample.Flagged(t,
		"b0:", "v1 = const 1", "branch v0 b3 b1",
		"b1:", "v3 = const 3", "branch v0 b2 b2",
		"b2:", "v4 = phi int b1 v3 b3 v1 b4 v8", "branch v0 b4 b5",
		"b3:", "v6 = const 6", "jump b2",
		"b4:", "v8 = add v4 v4", "branch v0 b2 b4",
		"b5:", "v9 = phi int b2 v4", "return v9",
	), api.OK)
	cut := sample.Line(api.MaxBlocks)
	cut.Blocks[0].Term = sample.Trap(7)
	wantPrune(t, "a line, cut behind 0", cut, api.Func{Blocks: []api.Block{{Term: sample.Trap(7)}}}, api.OK)
}

// TestPrunePhis: a phi stays with nothing left, and what comes from a block that is there, but does not go to it, stays.
func TestPrunePhis(t *testing.T) {
	wantPrune(t, "phis that lose something",
		sample.Flagged(t,
			"b0:", "v1 = const 1", "jump b2",
			"b1:", "v2 = const 2", "jump b4",
			"b2:", "v3 = phi int b1 v2 b3 v2", "v4 = phi int b3 v1 b1 v2 b4 v1 b2 v5 b0 v3", "v5 = phi int", "jump b4",
			"b3:", "v6 = phi int b1 v2 b4 v9", "jump b2",
			"b4:", "return v5",
			"b5:", "v9 = phi int b5 v9", "jump b5",
		),
		sample.Flagged(t,
			"b0:", "v1 = const 1", "jump b1",
			"b1:", "v3 = phi int", "v4 = phi int b2 v1 b1 v5 b0 v3", "v5 = phi int", "jump b2",
			"b2:", "return v5",
		), api.OK)
}

// TestPruneUse: a value that is gone must not be used by what stays; in what a phi loses it may.
func TestPruneUse(t *testing.T) {
	for _, gone := range []string{"v1 = const 1", "v1 = phi int"} {
		for _, c := range []struct {
			what string
			use  []string
			want api.Errno
		}{
			{"an instruction", []string{"v2 = add v1 v1", "return v0"}, api.ErrUse},
			{"an instruction that makes nothing", []string{"out v1", "return v0"}, api.ErrUse},
			{"an end", []string{"return v1"}, api.ErrUse},
			{"a phi, from itself", []string{"v2 = phi int b2 v1", "return v0"}, api.ErrUse},
			{"a phi, from what stays", []string{"v2 = phi int b1 v1 b0 v1", "return v0"}, api.ErrUse},
			{"a phi, from what is gone", []string{"v2 = phi int b1 v1", "return v2"}, api.OK},
			{"nothing", []string{"return v0"}, api.OK},
		} {
			f := sample.Flagged(t, append([]string{"b0:", "jump b2", "b1:", gone, "jump b1", "b2:"}, c.use...)...)
			got, e := graph.Prune(f)
			if e != c.want || (e == api.OK) != (len(got.Blocks) == 2) || e != api.OK && !sample.Same(got, api.Func{}) {
				t.Errorf("%s uses %q: Prune answers %v, %d, want error %d", c.what, gone, got, e, c.want)
			}
		}
	}
	f := sample.Flagged(t, "b0:", "branch v0 b2 b2", "b1:", "v1 = flag 1", "jump b1", "b2:", "branch v1 b3 b3", "b3:", "return v0")
	wantPrune(t, "a branch uses it", f, api.Func{}, api.ErrUse)
}

// TestPruneOfEachGraph makes what is wanted anew, of the blocks that stay.
func TestPruneOfEachGraph(t *testing.T) {
	sample.EachGraph(4, func(what string, f api.Func) {
		reach := reachByRounds(f)
		var was []int
		now := map[int]int{}
		for b := range f.Blocks {
			if reach[b] {
				now[b] = len(was)
				was = append(was, b)
			}
		}
		want := api.Func{Params: f.Params}
		for _, b := range was {
			block := api.Block{Code: f.Blocks[b].Code, Term: f.Blocks[b].Term}
			block.Term.To = nil
			for _, to := range f.Blocks[b].Term.To {
				block.Term.To = append(block.Term.To, now[to])
			}
			for _, p := range f.Blocks[b].Phis {
				p.From, p.Vals = nil, make([]int, len(was))
				for _, from := range slices.Backward(was) {
					p.From = append(p.From, now[from])
				}
				block.Phis = append(block.Phis, p)
			}
			want.Blocks = append(want.Blocks, block)
		}
		wantPrune(t, what, f, want, api.OK)
		if e := ir.Check(want); e != api.OK {
			t.Errorf("what is wanted has error %d", e)
		}
	})
}
