package dom_test

import (
	"slices"
	"testing"

	"strake/api"
	"strake/dom"
	"strake/sample"
)

// nest has a fork with a join, a loop in a loop, an edge that stands twice, and blocks that can't be come to, which go
// to others and to each other.
func nest(t *testing.T) api.Func {
	t.Helper()
	return sample.Flagged(t,
		"b0:", "branch v0 b9 b1",
		"b1:", "jump b2",
		"b2:", "branch v0 b3 b4",
		"b3:", "branch v0 b5 b5",
		"b4:", "jump b5",
		"b5:", "branch v0 b5 b6",
		"b6:", "branch v0 b2 b7",
		"b7:", "branch v0 b1 b8",
		"b8:", "jump b10",
		"b9:", "jump b10",
		"b10:", "return v0",
		"b11:", "branch v0 b12 b10",
		"b12:", "branch v0 b11 b2",
	)
}

// twoHeads has a loop with two ways in, neither of which dominates it.
func twoHeads(t *testing.T) api.Func {
	t.Helper()
	return sample.Flagged(t,
		"b0:", "jump b1",
		"b1:", "branch v0 b2 b3",
		"b2:", "branch v0 b3 b4",
		"b3:", "jump b2",
		"b4:", "return v0",
	)
}

func wantIdoms(t *testing.T, what string, f api.Func, want []int) {
	t.Helper()
	if got, e := dom.Idoms(f); !slices.Equal(got, want) || e != api.OK {
		t.Errorf("%s: Idoms answers %v, %d, want %v", what, got, e, want)
	}
}

func wantDominates(t *testing.T, what string, f api.Func, a, b int, want bool, wantE api.Errno) {
	t.Helper()
	if got, e := dom.Dominates(f, a, b); got != want || e != wantE {
		t.Errorf("%s: Dominates of %d, %d answers %v, %d, want %v, %d", what, a, b, got, e, want, wantE)
	}
}

func wantFrontiers(t *testing.T, what string, f api.Func, want [][]int) {
	t.Helper()
	got, e := dom.Frontiers(f)
	if !slices.EqualFunc(got, want, slices.Equal[[]int]) || e != api.OK {
		t.Errorf("%s: Frontiers answers %v, %d, want %v", what, got, e, want)
	}
}

func wantMeet(t *testing.T, what string, f api.Func, blocks []int, want int, wantE api.Errno) {
	t.Helper()
	if got, e := dom.Meet(f, blocks...); got != want || e != wantE {
		t.Errorf("%s: Meet of %v answers %d, %d, want %d, %d", what, blocks, got, e, want, wantE)
	}
}

// wantPlain holds the calls against the plain words, Meet for one and two blocks.
func wantPlain(t *testing.T, what string, f api.Func) {
	t.Helper()
	p := plainOf(f)
	wantIdoms(t, what, f, p.idoms())
	wantFrontiers(t, what, f, p.frontiers())
	for a := range f.Blocks {
		wantMeetOf(t, what, p, a)
		for b := range f.Blocks {
			wantDominates(t, what, f, a, b, p.dom[a][b], api.OK)
			wantMeetOf(t, what, p, a, b)
		}
	}
}

func wantMeetOf(t *testing.T, what string, p plain, blocks ...int) {
	t.Helper()
	if want := p.meet(blocks); want >= 0 {
		wantMeet(t, what, p.f, blocks, want, api.OK)
	} else {
		wantMeet(t, what, p.f, blocks, 0, api.ErrNone)
	}
}
