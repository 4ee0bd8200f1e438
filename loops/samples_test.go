package loops_test

import (
	"slices"
	"testing"

	"strake/api"
	"strake/loops"
)

// deepLoops are those of sample.Deep.
func deepLoops() []api.Loop {
	return []api.Loop{
		{Head: 1, Blocks: []int{1}, Latches: []int{1}, Exits: []int{3}, Parent: 1},
		{Head: 3, Blocks: []int{1, 2, 3}, Latches: []int{1, 2}, Exits: []int{5}, Parent: 2},
		{Head: 9, Blocks: []int{1, 2, 3, 5, 6, 7, 8, 9, 11, 12}, Latches: []int{11, 12}, Exits: []int{4}, Parent: -1},
		{Head: 11, Blocks: []int{11}, Latches: []int{11}, Exits: []int{9}, Parent: 2},
	}
}

// alone is a loop that no other one is around.
func alone(head int, blocks, latches, exits []int) []api.Loop {
	return []api.Loop{{Head: head, Blocks: blocks, Latches: latches, Exits: exits, Parent: -1}}
}

// upFrom are so many numbers.
func upFrom(first, n int) []int {
	var all []int
	for i := range n {
		all = append(all, first+i)
	}
	return all
}

func sameLoop(a, b api.Loop) bool {
	return a.Head == b.Head && slices.Equal(a.Blocks, b.Blocks) && slices.Equal(a.Latches, b.Latches) &&
		slices.Equal(a.Exits, b.Exits) && a.Parent == b.Parent
}

func wantForest(t *testing.T, what string, f api.Func, want []api.Loop, wantE api.Errno) {
	t.Helper()
	if got, e := loops.Forest(f); !slices.EqualFunc(got, want, sameLoop) || e != wantE {
		t.Errorf("%s: Forest answers %v, %d, want %v, %d", what, got, e, want, wantE)
	}
}

func wantDepths(t *testing.T, what string, f api.Func, want []int, wantE api.Errno) {
	t.Helper()
	if got, e := loops.Depths(f); !slices.Equal(got, want) || e != wantE {
		t.Errorf("%s: Depths answers %v, %d, want %v, %d", what, got, e, want, wantE)
	}
}

func wantOdd(t *testing.T, what string, f api.Func, want []int, wantE api.Errno) {
	t.Helper()
	if got, e := loops.Odd(f); !slices.Equal(got, want) || e != wantE {
		t.Errorf("%s: Odd answers %v, %d, want %v, %d", what, got, e, want, wantE)
	}
}

// wantPlain holds all calls against the plain words.
func wantPlain(t *testing.T, what string, f api.Func) {
	t.Helper()
	p := plainOf(f)
	wantForest(t, what, f, p.forest(), api.OK)
	wantDepths(t, what, f, p.depths(), api.OK)
	wantOdd(t, what, f, p.odd(), api.OK)
}
