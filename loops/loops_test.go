package loops_test

import (
	"fmt"
	"testing"

	"strake/api"
	"strake/sample"
)

func TestForest(t *testing.T) {
	wantForest(t, "bare", sample.Bare(), nil, api.OK)
	wantForest(t, "a line", sample.Line(api.MaxBlocks), nil, api.OK)
	wantForest(t, "whole", sample.Whole(), alone(1, []int{1, 2}, []int{2}, []int{3}), api.OK)
	wantForest(t, "deep", sample.Deep(t), deepLoops(), api.OK)
	for _, c := range []struct {
		what  string
		lines []string
		want  []api.Loop
	}{
		{"ways that meet", []string{"b0:", "branch v0 b1 b2", "b1:", "jump b3", "b2:", "branch v0 b3 b3", "b3:", "return v0"}, nil},
		{"a block goes to one ahead, but not back", []string{"b0:", "jump b2", "b1:", "return v0", "b2:", "jump b1"}, nil},
		{"a block goes to itself", []string{"b0:", "jump b1", "b1:", "branch v0 b1 b2", "b2:", "return v0"},
			alone(1, []int{1}, []int{1}, []int{2})},
		{"a block goes just to itself", []string{"b0:", "jump b1", "b1:", "jump b1"}, alone(1, []int{1}, []int{1}, nil)},
		{"a block goes to itself twice", []string{"b0:", "jump b1", "b1:", "branch v0 b1 b1"}, alone(1, []int{1}, []int{1}, nil)},
		{"a block goes to itself, and two go there", []string{"b0:", "branch v0 b1 b2", "b1:", "jump b2", "b2:", "branch v0 b3 b2", "b3:", "return v0"},
			alone(2, []int{2}, []int{2}, []int{3})},
		{"a block goes back twice", []string{"b0:", "jump b1", "b1:", "branch v0 b2 b3", "b2:", "branch v0 b1 b1", "b3:", "return v0"},
			alone(1, []int{1, 2}, []int{2}, []int{3})},
		{"the head goes back, too", []string{"b0:", "jump b1", "b1:", "branch v0 b1 b2", "b2:", "branch v0 b1 b3", "b3:", "return v0"},
			alone(1, []int{1, 2}, []int{1, 2}, []int{3})},
		{"some ways back to one head", []string{"b0:", "jump b4", "b1:", "jump b4", "b2:", "branch v0 b4 b3", "b3:", "branch v0 b1 b4", "b4:", "jump b2"},
			alone(4, []int{1, 2, 3, 4}, []int{1, 2, 3}, nil)},
		{"ways out to some blocks, and to one twice", []string{"b0:", "jump b3", "b1:", "trap 0", "b2:", "return v0",
			"b3:", "branch v0 b4 b2", "b4:", "branch v0 b2 b5", "b5:", "branch v0 b3 b1"}, alone(3, []int{3, 4, 5}, []int{5}, []int{1, 2})},
		{"a fork in a loop, one arm of which leaves it", []string{"b0:", "jump b1", "b1:", "branch v0 b2 b3", "b2:", "jump b4", "b3:", "jump b5",
			"b4:", "jump b1", "b5:", "branch v0 b6 b7", "b6:", "jump b7", "b7:", "return v0"}, alone(1, []int{1, 2, 4}, []int{4}, []int{3})},
	} {
		wantForest(t, c.what, sample.Flagged(t, c.lines...), c.want, api.OK)
	}
}

// TestForestParents: a loop's parent is the least one around it, wherever the heads stand.
func TestForestParents(t *testing.T) {
	shared := sample.Flagged(t, "b0:", "jump b1", "b1:", "jump b2", "b2:", "jump b3", "b3:", "branch v0 b2 b1")
	wantForest(t, "a block that goes back to two heads", shared, []api.Loop{
		{Head: 1, Blocks: []int{1, 2, 3}, Latches: []int{3}, Parent: -1},
		{Head: 2, Blocks: []int{2, 3}, Latches: []int{3}, Exits: []int{1}, Parent: 0},
	}, api.OK)
	behind := sample.Flagged(t, "b0:", "jump b3", "b1:", "branch v0 b1 b2", "b2:", "branch v0 b3 b4", "b3:", "jump b1", "b4:", "return v0")
	wantForest(t, "a head behind that of the loop within", behind, []api.Loop{
		{Head: 1, Blocks: []int{1}, Latches: []int{1}, Exits: []int{2}, Parent: 1},
		{Head: 3, Blocks: []int{1, 2, 3}, Latches: []int{2}, Exits: []int{4}, Parent: -1},
	}, api.OK)
	beside := sample.Flagged(t, "b0:", "jump b1", "b1:", "branch v0 b1 b2", "b2:", "branch v0 b2 b3", "b3:", "return v0")
	wantForest(t, "one behind the other", beside, []api.Loop{
		{Head: 1, Blocks: []int{1}, Latches: []int{1}, Exits: []int{2}, Parent: -1},
		{Head: 2, Blocks: []int{2}, Latches: []int{2}, Exits: []int{3}, Parent: -1},
	}, api.OK)
}

func TestDepths(t *testing.T) {
	wantDepths(t, "bare", sample.Bare(), []int{0}, api.OK)
	wantDepths(t, "a line", sample.Line(api.MaxBlocks), make([]int, api.MaxBlocks), api.OK)
	wantDepths(t, "whole", sample.Whole(), []int{0, 1, 1, 0, 0}, api.OK)
	wantDepths(t, "deep", sample.Deep(t), []int{0, 3, 2, 2, 0, 1, 1, 1, 1, 1, 0, 2, 1}, api.OK)
	wantDepths(t, "a loop of two ways in", sample.Flagged(t, "b0:", "branch v0 b1 b2", "b1:", "jump b2", "b2:", "jump b1"), []int{0, 0, 0}, api.OK)
	wantDepths(t, "two ways back to one head", sample.Flagged(t, "b0:", "jump b1", "b1:", "branch v0 b1 b2", "b2:", "jump b1"), []int{0, 1, 1}, api.OK)
}

func TestOdd(t *testing.T) {
	wantOdd(t, "bare", sample.Bare(), nil, api.OK)
	wantOdd(t, "a line", sample.Line(api.MaxBlocks), nil, api.OK)
	wantOdd(t, "whole", sample.Whole(), nil, api.OK)
	wantOdd(t, "deep", sample.Deep(t), []int{7}, api.OK)
	for _, c := range []struct {
		what  string
		lines []string
		want  []int
	}{
		{"two ways in", []string{"b0:", "branch v0 b1 b2", "b1:", "jump b2", "b2:", "jump b1"}, []int{1}},
		{"two ways in, the other one first", []string{"b0:", "branch v0 b2 b1", "b1:", "jump b2", "b2:", "jump b1"}, []int{2}},
		{"two ways in, and a block goes there twice", []string{"b0:", "branch v0 b1 b2", "b1:", "jump b2", "b2:", "branch v0 b1 b1"}, []int{1}},
		{"a head of its own loop, too", []string{"b0:", "branch v0 b1 b2", "b1:", "branch v0 b1 b2", "b2:", "branch v0 b1 b3", "b3:", "return v0"}, []int{1}},
		{"a block goes to itself", []string{"b0:", "jump b1", "b1:", "branch v0 b1 b1"}, nil},
		{"a loop with two ways out", []string{"b0:", "jump b1", "b1:", "branch v0 b2 b3", "b2:", "branch v0 b1 b3", "b3:", "return v0"}, nil},
		{"a loop whose numbers fall", []string{"b0:", "jump b3", "b1:", "branch v0 b3 b1", "b2:", "jump b1", "b3:", "jump b2"}, nil},
		{"a way ahead to a lesser number", []string{"b0:", "branch v0 b1 b2", "b1:", "return v0", "b2:", "jump b1"}, nil},
		{"some in a row", []string{"b0:", "branch v0 b1 b3", "b1:", "branch v0 b2 b4", "b2:", "branch v0 b1 b3", "b3:", "branch v0 b4 b2", "b4:", "jump b3"}, []int{1, 2, 3}},
	} {
		wantOdd(t, c.what, sample.Flagged(t, c.lines...), c.want, api.OK)
	}
}

// TestSmall holds all graphs of up to four blocks against the plain words.
func TestSmall(t *testing.T) {
	graphs := 0
	sample.EachSmall(func(what string, f api.Func) {
		graphs++
		wantPlain(t, what, f)
	})
	if graphs < 5000 {
		t.Errorf("just %d graphs", graphs)
	}
}

// TestSeeded holds graphs of some ten blocks, and functions with phis and code, against the plain words.
func TestSeeded(t *testing.T) {
	found, within, odd := 0, 0, 0
	for seed := range 600 {
		f := sample.Reached(t, 4+seed%30, seed)
		wantPlain(t, fmt.Sprint("seed ", seed), f)
		p := plainOf(f)
		for _, l := range p.forest() {
			found++
			if l.Parent >= 0 {
				within++
			}
		}
		odd += len(p.odd())
	}
	if found < 500 || within < 100 || odd < 300 {
		t.Errorf("just %d loops, %d of them in others, and %d odd blocks", found, within, odd)
	}
	for seed := range 100 {
		wantPlain(t, fmt.Sprint("busy ", seed), sample.Busy(2+seed%40, seed))
	}
	for rungs := 1; rungs < 12; rungs++ {
		wantPlain(t, fmt.Sprint(rungs, " rungs"), sample.Ladder(rungs))
	}
}

// TestNested has as many loops one in another as there may be.
func TestNested(t *testing.T) {
	for _, n := range []int{1, 2, 3, 10, 255} {
		f := sample.Nested(n)
		last := 2*n + 1
		depths := make([]int, last+1)
		var want []api.Loop
		for head := 1; head <= n; head++ {
			depths[head], depths[last-head] = head, head
			want = append(want, api.Loop{
				Head: head, Blocks: upFrom(head, last+1-2*head), Latches: []int{last - head}, Exits: []int{last + 1 - head},
				// The loop around has the number ahead, and that of head 1 has number 0.
				Parent: head - 2,
			})
		}
		wantForest(t, fmt.Sprint(n, " loops"), f, want, api.OK)
		wantDepths(t, fmt.Sprint(n, " loops"), f, depths, api.OK)
		wantOdd(t, fmt.Sprint(n, " loops"), f, nil, api.OK)
	}
}

// TestGreat has functions of as many blocks as there may be.
func TestGreat(t *testing.T) {
	const last = api.MaxBlocks - 1
	back := sample.Line(api.MaxBlocks)
	for b := range back.Blocks {
		back.Blocks[b].Term = sample.Jump(b - 1)
	}
	back.Blocks[0].Term, back.Blocks[1].Term = sample.Jump(last), sample.Jump(last)
	wantForest(t, "a line backwards", back, alone(last, upFrom(1, last), []int{1}, nil), api.OK)
	wantOdd(t, "a line backwards", back, nil, api.OK)

	again, apart := sample.Line(api.MaxBlocks), sample.Line(api.MaxBlocks)
	again.Params, apart.Params = []int{api.Bool}, []int{api.Bool}
	var ones []api.Loop
	for b := 1; b < last; b++ {
		again.Blocks[b].Term, apart.Blocks[b].Term = sample.Branch(0, 1, b+1), sample.Branch(0, b, b+1)
		ones = append(ones, alone(b, []int{b}, []int{b}, []int{b + 1})...)
	}
	wantForest(t, "all go back to one", again, alone(1, upFrom(1, last-1), upFrom(1, last-1), []int{last}), api.OK)
	wantForest(t, "each goes to itself", apart, ones, api.OK)

	both := sample.BothWays()
	wantForest(t, "both ways", both, append(alone(1, []int{1}, []int{1}, []int{2}), alone(last, []int{last}, []int{last}, []int{last - 1})...), api.OK)
	wantOdd(t, "both ways", both, upFrom(1, last-1), api.OK)

	wantPlain(t, "a ladder", sample.Ladder(255))
	wantPlain(t, "seed 21", sample.Reached(t, api.MaxBlocks, 21))
	wantPlain(t, "seed 34", sample.Reached(t, api.MaxBlocks, 34))
}
