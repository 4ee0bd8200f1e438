package dom_test

import (
	"fmt"
	"math"
	"slices"
	"testing"

	"strake/api"
	"strake/sample"
)

func TestIdoms(t *testing.T) {
	wantIdoms(t, "bare", sample.Bare(), []int{-1})
	wantIdoms(t, "rich", sample.Rich(), []int{-1, 0, 1, 1, 3, -1, -1})
	wantIdoms(t, "nest", nest(t), []int{-1, 0, 1, 2, 2, 2, 5, 6, 7, 0, 0, -1, -1})
	wantIdoms(t, "two heads", twoHeads(t), []int{-1, 0, 1, 1, 2})
	wantIdoms(t, "a block goes to itself", sample.Flagged(t, "b0:", "jump b1", "b1:", "branch v0 b1 b1"), []int{-1, 0})
	wantIdoms(t, "all come from what can't be come to", sample.Flagged(t, "b0:", "return v0", "b1:", "jump b2", "b2:", "jump b1"), []int{-1, -1, -1})
	f := sample.Line(api.MaxBlocks)
	var want []int
	for b := range api.MaxBlocks {
		want = append(want, b-1)
	}
	wantIdoms(t, "a line", f, want)
	for b := range f.Blocks {
		f.Blocks[b].Term = sample.Jump(max(b-1, 1))
		want[b] = b + 1
	}
	f.Blocks[0].Term, want[0], want[api.MaxBlocks-1] = sample.Jump(api.MaxBlocks-1), -1, 0
	wantIdoms(t, "a line backwards", f, want)
}

func TestDominates(t *testing.T) {
	for _, c := range []struct {
		a, b int
		want bool
	}{
		{0, 0, true}, {0, 10, true}, {1, 8, true}, {2, 5, true}, {5, 5, true}, {5, 7, true}, {2, 7, true},
		{3, 5, false}, {4, 5, false}, {5, 2, false}, {7, 1, false}, {8, 10, false}, {9, 10, false}, {1, 0, false}, {3, 4, false},
		{11, 11, false}, {0, 11, false}, {11, 10, false}, {11, 12, false}, {12, 2, false}, {1, 12, false},
	} {
		wantDominates(t, "nest", nest(t), c.a, c.b, c.want, api.OK)
	}
	wantDominates(t, "two heads", twoHeads(t), 2, 3, false, api.OK)
	wantDominates(t, "two heads", twoHeads(t), 3, 2, false, api.OK)
	wantDominates(t, "two heads", twoHeads(t), 2, 4, true, api.OK)
}

// TestDominatesNone: a number that is no block's is ErrNone, in each place, also beside a block that can't be come to.
func TestDominatesNone(t *testing.T) {
	for _, n := range sample.Edges() {
		is := n >= 0 && n < 13
		e := api.ErrNone
		if is {
			e = api.OK
		}
		wantDominates(t, "nest", nest(t), 0, n, is && n <= 10, e)
		wantDominates(t, "nest", nest(t), n, 0, n == 0, e)
		wantDominates(t, "nest", nest(t), n, 11, false, e)
		wantDominates(t, "nest", nest(t), 12, n, false, e)
		wantDominates(t, "nest", nest(t), n, n, is && n <= 10, e)
		wantDominates(t, "nest", nest(t), n, 13, false, api.ErrNone)
		wantDominates(t, "nest", nest(t), -1, n, false, api.ErrNone)
	}
}

func TestFrontiers(t *testing.T) {
	wantFrontiers(t, "bare", sample.Bare(), [][]int{{}})
	wantFrontiers(t, "rich", sample.Rich(), [][]int{{}, {1}, {1}, {}, {}, {}, {}})
	wantFrontiers(t, "nest", nest(t), [][]int{
		{}, {1, 10}, {1, 2, 10}, {5}, {5}, {1, 2, 5, 10}, {1, 2, 10}, {1, 10}, {10}, {10}, {}, {}, {},
	})
	wantFrontiers(t, "two heads", twoHeads(t), [][]int{{}, {}, {3}, {2}, {}})
	wantFrontiers(t, "a block goes to itself", sample.Flagged(t, "b0:", "jump b1", "b1:", "branch v0 b1 b1"), [][]int{{}, {1}})
	wantFrontiers(t, "a fork to one block", sample.Flagged(t, "b0:", "branch v0 b1 b1", "b1:", "return v0"), [][]int{{}, {}})
	wantFrontiers(t, "beside a loop that can't be come to", sample.Flagged(t, "b0:", "return v0", "b1:", "branch v0 b1 b2", "b2:", "jump b1"), make([][]int, 3))
	f := sample.Line(api.MaxBlocks)
	want := make([][]int, api.MaxBlocks)
	wantFrontiers(t, "a line", f, want)
	f.Blocks[api.MaxBlocks-1].Term = sample.Jump(1)
	for b := 1; b < api.MaxBlocks; b++ {
		want[b] = []int{1}
	}
	wantFrontiers(t, "a line that goes back", f, want)
}

func TestMeet(t *testing.T) {
	for _, c := range []struct {
		blocks []int
		want   int
	}{
		{[]int{0}, 0}, {[]int{5}, 5}, {[]int{10}, 10}, {[]int{5, 5}, 5}, {[]int{5, 6}, 5}, {[]int{6, 5}, 5}, {[]int{3, 4}, 2}, {[]int{5, 3}, 2},
		{[]int{8, 9}, 0}, {[]int{10, 8}, 0}, {[]int{8, 3, 4}, 2}, {[]int{8, 7, 6}, 6}, {[]int{8, 3, 1, 4}, 1}, {[]int{8, 8, 8, 0, 8}, 0},
		{[]int{0, 1, 2, 3, 4, 5, 6, 7, 8, 9, 10}, 0}, {[]int{8, 7, 6, 5, 4, 3, 2, 1}, 1},
	} {
		wantMeet(t, "nest", nest(t), c.blocks, c.want, api.OK)
	}
	wantMeet(t, "two heads", twoHeads(t), []int{2, 3}, 1, api.OK)
	wantMeet(t, "two heads", twoHeads(t), []int{4, 2}, 2, api.OK)
	f := sample.Line(api.MaxBlocks)
	many := slices.Repeat([]int{511, 300, 411}, 100000)
	wantMeet(t, "a line", f, many, 300, api.OK)
	wantMeet(t, "a line", f, append(many, 7), 7, api.OK)
	wantMeet(t, "a line", f, append(many, 512), 0, api.ErrNone)
}

func TestMeetErrors(t *testing.T) {
	wantMeet(t, "nest", nest(t), nil, 0, api.ErrArg)
	wantMeet(t, "nest", nest(t), make([]int, 0, 5), 0, api.ErrArg)
	for _, n := range []int{math.MinInt, -2, -1, 11, 12, 13, 14, 512, 1 << 32, math.MaxInt} {
		for _, blocks := range [][]int{{n}, {n, 1}, {1, n}, {1, n, 2}, {0, n}, {n, 0}, {n, n}, {11, n}, {n, 99}} {
			wantMeet(t, "nest", nest(t), blocks, 0, api.ErrNone)
		}
	}
}

// TestSmall holds all graphs of up to four blocks against the plain words.
func TestSmall(t *testing.T) {
	for blocks := 1; blocks <= 4; blocks++ {
		sample.EachGraph(blocks, func(what string, f api.Func) { wantPlain(t, what, f) })
	}
}

// TestMeetOfMany has all lists of three blocks in all graphs of three, and some in greater ones.
func TestMeetOfMany(t *testing.T) {
	ask := func(what string, f api.Func) {
		p, n := plainOf(f), len(f.Blocks)
		for i := range n * n * n {
			wantMeetOf(t, what, p, i/n/n, i/n%n, i%n)
		}
	}
	sample.EachGraph(3, ask)
	for seed := range 20 {
		ask(fmt.Sprint("seed ", seed), sample.Seeded(7, seed))
	}
}

// TestMiddling holds graphs of some ten blocks, with loops of many ways in, against the plain words.
func TestMiddling(t *testing.T) {
	comes := 0
	for seed := range 400 {
		f := sample.Seeded(5+seed%9, seed)
		for _, come := range sample.Without(f, -1) {
			if come {
				comes++
			}
		}
		wantPlain(t, fmt.Sprint("seed ", seed), f)
	}
	if comes < 1500 {
		t.Errorf("just %d blocks could be come to", comes)
	}
	for rungs := 1; rungs < 12; rungs++ {
		wantPlain(t, fmt.Sprint(rungs, " rungs"), sample.Ladder(rungs))
	}
}

// TestGreat holds graphs of as many blocks as there may be against the plain words.
func TestGreat(t *testing.T) {
	back := sample.Line(api.MaxBlocks)
	back.Blocks[api.MaxBlocks-1].Term = sample.Jump(1)
	for what, f := range map[string]api.Func{
		"a line": sample.Line(api.MaxBlocks), "a line that goes back": back, "a ladder": sample.Ladder(255),
		"both ways": sample.BothWays(), "seed 21": sample.Seeded(api.MaxBlocks, 21), "seed 34": sample.Seeded(api.MaxBlocks, 34),
	} {
		p := plainOf(f)
		wantIdoms(t, what, f, p.idoms())
		wantFrontiers(t, what, f, p.frontiers())
		for b := 0; b < len(f.Blocks); b += 37 {
			wantDominates(t, what, f, b, 509, p.dom[b][509], api.OK)
			wantDominates(t, what, f, 3, b, p.dom[3][b], api.OK)
			wantMeetOf(t, what, p, b, 509)
			wantMeetOf(t, what, p, 500, b, 501)
		}
	}
}
