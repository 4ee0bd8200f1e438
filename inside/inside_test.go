package inside_test

import (
	"fmt"
	"slices"
	"testing"

	"strake/api"
	"strake/inside"
	"strake/loops"
	"strake/sample"
)

// leavesByWords is the first of those loops with the fewest blocks that have one block, if they have not the other one.
func leavesByWords(all []api.Loop, from, to int) int {
	least := -1
	for i, l := range all {
		if slices.Contains(l.Blocks, from) && (least < 0 || len(l.Blocks) < len(all[least].Blocks)) {
			least = i
		}
	}
	if least >= 0 && !slices.Contains(all[least].Blocks, to) {
		return least
	}
	return inside.NoLoop
}

func wantLeaves(t *testing.T, what string, f api.Func) {
	t.Helper()
	all, _ := loops.Forest(f)
	n, e := inside.NestOf(f)
	if e != api.OK || len(n.Loops) != len(all) {
		t.Errorf("%s: %d loops, error %d", what, len(n.Loops), e)
		return
	}
	for from := range f.Blocks {
		for to := range f.Blocks {
			if got, want := n.Leaves(from, to), leavesByWords(all, from, to); got != want {
				t.Errorf("%s: from %d to %d loop %d is left, want %d", what, from, to, got, want)
			}
		}
	}
}

func TestLeaves(t *testing.T) {
	wantLeaves(t, "deep", sample.Deep(t))
	wantLeaves(t, "nested", sample.Nested(20))
	wantLeaves(t, "a ladder", sample.Ladder(20))
	sample.EachSmall(func(what string, f api.Func) { wantLeaves(t, what, f) })
	for seed := range 100 {
		wantLeaves(t, fmt.Sprint("seed ", seed), sample.Reached(t, 4+seed%30, seed))
	}
	n, _ := inside.NestOf(sample.Nested(3)) // The heads are 1 to 3, and 6 to 4 go back to them.
	for _, c := range []struct{ from, to, loop int }{{3, 4, inside.NoLoop}, {4, 5, 2}, {4, 6, 2}, {4, 7, 2}, {5, 6, 1}, {5, 3, inside.NoLoop}, {2, 0, 1}, {6, 7, 0}, {0, 7, inside.NoLoop}, {7, 3, inside.NoLoop}} {
		if got := n.Leaves(c.from, c.to); got != c.loop {
			t.Errorf("from %d to %d loop %d is left, want %d", c.from, c.to, got, c.loop)
		}
	}
}

func TestHas(t *testing.T) {
	l := api.Loop{Head: 2, Blocks: []int{2, 5, 6, 9}}
	for b := range 11 {
		if inside.Has(l, b) != slices.Contains(l.Blocks, b) {
			t.Errorf("of block %d it is not told whether the loop has it", b)
		}
	}
}

func TestTellsErrors(t *testing.T) {
	ask := func(what string, f api.Func, want api.Errno) {
		if n, e := inside.NestOf(f); e != want || n.Loops != nil {
			t.Errorf("%s: %v, error %d, want %d", what, n.Loops, e, want)
		}
	}
	sample.Wrong(ask)
	sample.Loose(func(what string, f api.Func, _ int, want api.Errno) { ask(what, f, want) })
}
