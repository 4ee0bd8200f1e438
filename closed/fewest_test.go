package closed_test

import (
	"fmt"
	"math/bits"
	"slices"
	"testing"

	"strake/api"
	"strake/graph"
	"strake/loops"
	"strake/sample"
)

// unmade stands for what comes from the function's beginning.
const unmade = -1

// makers tells of each block which blocks may have made the value last at its end: those in a set (a bit each) make it.
func makers(f api.Func, set uint) [][]int {
	all := make([][]int, len(f.Blocks))
	for b := range all {
		if set>>b&1 != 0 {
			all[b] = []int{b}
		}
	}
	if all[0] == nil {
		all[0] = []int{unmade}
	}
	for changed := true; changed; {
		changed = false
		for b, block := range f.Blocks {
			for _, to := range block.Term.To {
				for _, m := range all[b] {
					if set>>to&1 == 0 && !slices.Contains(all[to], m) {
						all[to] = append(all[to], m)
						changed = true
					}
				}
			}
		}
	}
	return all
}

// closes tells whether it would do to make a value anew in a set of blocks, by phis: each use gets what one block made,
// and not openly.
func closes(f api.Func, forest []api.Loop, made int, uses []use, set uint) bool {
	all := makers(f, set|1<<made)
	fits := func(u use) bool {
		at := u.block
		if u.from >= 0 {
			at = u.from
		}
		return len(all[at]) == 1 && all[at][0] != unmade && !isOpen(forest, all[at][0], u)
	}
	preds, _ := graph.Preds(f)
	for b := range f.Blocks {
		for _, p := range preds[b] {
			if set>>b&1 != 0 && !fits(use{-1, b, p}) {
				return false
			}
		}
	}
	return !slices.ContainsFunc(uses, func(u use) bool { return !fits(u) })
}

// fewestPhis is in how few blocks a value has to be made anew, tried with all sets of blocks.
func fewestPhis(f api.Func, id int) int {
	forest, _ := loops.Forest(f)
	made := madeIn(f)[id]
	uses := slices.DeleteFunc(usesOf(f), func(u use) bool { return u.id != id })
	fewest := len(f.Blocks)
	for set := range uint(1) << len(f.Blocks) {
		if n := bits.OnesCount(set); n < fewest && set>>made&1 == 0 && set&1 == 0 && closes(f, forest, made, uses, set) {
			fewest = n
		}
	}
	return fewest
}

// wantFewest asks for no phi more than there have to be.
func wantFewest(t *testing.T, what string, f api.Func, ins []api.Input) (added int) {
	t.Helper()
	g := wantClosed(t, what, f, ins)
	for _, id := range openByWords(f) {
		added += fewestPhis(f, id)
	}
	if n := phisOf(g) - phisOf(f); n != added {
		t.Errorf("%s: there are %d phis more, want %d: %v, %v", what, n, added, f, g)
	}
	return added
}

// TestFewestSmall has all graphs of up to four blocks.
func TestFewestSmall(t *testing.T) {
	n, open, added := 0, 0, 0
	sample.EachSmall(func(what string, f api.Func) {
		if n++; n%9 != 0 {
			return
		}
		if more := wantFewest(t, what, sample.Recalling(f), sample.Walks()[3:4]); more > 0 {
			open++
			added += more
		}
	})
	if open < 250 || added < 300 {
		t.Errorf("just %d functions of %d are changed, with %d phis", open, n/9, added)
	}
}

// TestFewestSeeded has greater graphs, with loops in loops, and ways out of more than one.
func TestFewestSeeded(t *testing.T) {
	open, added := 0, 0
	for seed := range 600 {
		f := sample.Recalling(sample.Reached(t, 6+seed%5, seed))
		if more := wantFewest(t, fmt.Sprint("seed ", seed), f, sample.Walks()); more > 0 {
			open++
			added += more
		}
	}
	if open < 120 || added < 250 {
		t.Errorf("just %d functions are changed, with %d phis", open, added)
	}
}
