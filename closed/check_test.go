package closed_test

import (
	"fmt"
	"testing"

	"strake/api"
	"strake/sample"
)

// numbered reads a function of a flag, v0, and two numbers, v1 and v2.
func numbered(t *testing.T, lines ...string) api.Func {
	t.Helper()
	return sample.Read(t, append([]string{"func bool int int arrays 1 cells 1"}, lines...)...)
}

// noneOpen stands where no value leaves a loop openly: v0 is a parameter.
const noneOpen = 0

func wantChecks(t *testing.T, what string, want int, lines ...string) {
	t.Helper()
	f := numbered(t, lines...)
	if want == noneOpen {
		wantCheck(t, what, f, 0, api.OK)
	} else {
		wantCheck(t, what, f, want, api.ErrLoop)
	}
	wantCheckByWords(t, what, f)
}

// TestCheckUses has uses of each kind behind a loop of one block.
func TestCheckUses(t *testing.T) {
	loop := []string{"b0:", "jump b1",
		"b1:", "v7 = phi int b0 v1 b1 v5", "v8 = phi bool b1 v6 b0 v0", "v5 = add v7 v2", "v6 = lt v5 v7", "branch v6 b1 b2", "b2:"}
	uses := func(what string, want int, lines ...string) {
		t.Helper()
		wantChecks(t, what, want, append(loop[:len(loop):len(loop)], lines...)...)
	}
	uses("none", noneOpen, "return v1")
	uses("a trap", noneOpen, "trap 5")
	uses("a return", 5, "return v5")
	uses("a return of a flag", 8, "return v8")
	uses("a branch", 6, "branch v6 b3 b4", "b3:", "return v1", "b4:", "return v2")
	uses("a first argument", 7, "v9 = add v7 v1", "return v9")
	uses("a second argument", 7, "v9 = sub v1 v7", "return v9")
	uses("a third argument", 7, "v9 = select v0 v1 v7", "return v9")
	uses("what makes nothing", 5, "out v5", "return v1")
	uses("a store", 7, "store 0 v1 v7", "return v1")
	uses("a cell that is set", 5, "set 0 v5", "return v1")
	uses("two, of which the least is used last", 5, "out v7", "return v5")
	uses("four, of which the least is used in the middle", 5, "v9 = select v6 v7 v5", "return v8")
	uses("far behind", 7, "jump b3", "b3:", "jump b4", "b4:", "return v7")
	uses("a phi from the loop", noneOpen, "v9 = phi int b1 v5", "return v9")
	uses("phis from the loop", noneOpen, "v9 = phi bool b1 v8", "v10 = phi bool b1 v6", "branch v9 b3 b4", "b3:", "return v10", "b4:", "return v9")
	uses("a phi from the loop, and another use", 5, "v9 = phi int b1 v5", "v10 = add v9 v5", "return v10")
	uses("a phi from a block behind the loop", 5, "jump b3", "b3:", "v9 = phi int b2 v5", "return v9")
	uses("a phi's phi", noneOpen, "v9 = phi int b1 v5", "jump b3", "b3:", "v10 = phi int b2 v9", "return v10")
	uses("one way around a block", 7, "branch v0 b3 b4", "b3:", "jump b4", "b4:", "v9 = phi int b2 v1 b3 v7", "return v9")
	uses("just in a loop behind", 5, "jump b3", "b3:", "v9 = phi int b2 v1 b3 v10", "v10 = add v9 v5", "branch v0 b3 b4", "b4:", "return v1")
	uses("at the beginning of a loop behind", 5, "jump b3", "b3:", "v9 = phi int b2 v5 b3 v9", "branch v0 b3 b4", "b4:", "return v1")
	uses("parameters", noneOpen, "v9 = select v0 v1 v2", "return v9")
}

// TestCheckNests has loops in loops.
func TestCheckNests(t *testing.T) {
	wantChecks(t, "out of the loop within", 4, "b0:", "jump b1", "b1:", "jump b2", "b2:", "v4 = add v1 v2", "branch v0 b2 b3", "b3:", "v5 = lt v4 v2", "branch v5 b1 b4", "b4:", "return v1")
	wantChecks(t, "out of the one around", 4, "b0:", "jump b1", "b1:", "v4 = add v1 v2", "jump b2", "b2:", "branch v0 b2 b3", "b3:", "branch v0 b1 b4", "b4:", "return v4")
	wantChecks(t, "out of both", 4, "b0:", "jump b1", "b1:", "jump b2", "b2:", "v4 = add v1 v2", "branch v0 b2 b3", "b3:", "branch v0 b1 b4", "b4:", "return v4")
	wantChecks(t, "out of both, by a phi of both", noneOpen, "b0:", "jump b1", "b1:", "jump b2", "b2:", "v4 = add v1 v2", "branch v0 b3 b4", "b3:", "branch v0 b2 b1", "b4:", "v5 = phi int b2 v4", "return v5")
	wantChecks(t, "out of both, by a phi of the one within", 5, "b0:", "jump b1", "b1:", "jump b2", "b2:", "v4 = add v1 v2", "branch v0 b2 b3", "b3:", "v5 = phi int b2 v4", "branch v0 b1 b4", "b4:", "return v5")
	wantChecks(t, "out of both, by a phi each", noneOpen, "b0:", "jump b1", "b1:", "jump b2", "b2:", "v4 = add v1 v2", "branch v0 b2 b3", "b3:", "v5 = phi int b2 v4", "branch v0 b1 b4", "b4:", "v6 = phi int b3 v5", "return v6")
	wantChecks(t, "out of both, by a phi of the one around", 4, "b0:", "jump b1", "b1:", "jump b2", "b2:", "v4 = add v1 v2", "branch v0 b2 b3", "b3:", "branch v0 b1 b4", "b4:", "v5 = phi int b3 v4", "return v5")
	wantChecks(t, "into the loop within", noneOpen, "b0:", "jump b1", "b1:", "v4 = add v1 v2", "jump b2", "b2:", "out v4", "branch v0 b2 b3", "b3:", "branch v0 b1 b4", "b4:", "return v1")
	wantChecks(t, "through the loop within", noneOpen, "b0:", "jump b1", "b1:", "v4 = add v1 v2", "jump b2", "b2:", "branch v0 b2 b3", "b3:", "out v4", "branch v0 b1 b4", "b4:", "return v1")
	wantChecks(t, "back to the head of the one around, from within", noneOpen, "b0:", "jump b1", "b1:", "v4 = phi int b0 v1 b2 v5", "jump b2", "b2:", "v5 = add v4 v2", "branch v0 b2 b1")
	wantChecks(t, "back to the head of the one around, from behind the one within", 5, "b0:", "jump b1", "b1:", "v4 = phi int b0 v1 b3 v5", "jump b2", "b2:", "v5 = add v4 v2", "branch v0 b2 b3", "b3:", "jump b1")
	wantChecks(t, "the second of two, one behind the other", 5, "b0:", "jump b1", "b1:", "v4 = add v1 v2", "branch v0 b1 b2", "b2:", "v6 = phi int b1 v4 b2 v6", "v5 = add v6 v2", "branch v0 b2 b3", "b3:", "return v5")
	wantChecks(t, "from one of two loops to the other", 4, "b0:", "jump b1", "b1:", "v4 = add v1 v2", "branch v0 b1 b2", "b2:", "out v4", "branch v0 b2 b3", "b3:", "return v1")
}

// TestCheckWays has ways out of other shapes than plain ones.
func TestCheckWays(t *testing.T) {
	wantChecks(t, "two ways out to one block", 4, "b0:", "jump b1", "b1:", "v4 = add v1 v2", "branch v0 b2 b3", "b2:", "branch v0 b1 b3", "b3:", "return v4")
	wantChecks(t, "two ways out to one block, by a phi", noneOpen, "b0:", "jump b1", "b1:", "v4 = add v1 v2", "branch v0 b2 b3", "b2:", "branch v0 b1 b3", "b3:", "v5 = phi int b2 v4 b1 v4", "return v5")
	wantChecks(t, "a way out to a block that is come to otherwise", noneOpen, "b0:", "branch v0 b1 b3", "b1:", "jump b2", "b2:", "v4 = add v1 v2", "branch v0 b2 b3", "b3:", "v5 = phi int b0 v1 b2 v4", "return v5")
	wantChecks(t, "a block that goes back or out twice", 4, "b0:", "jump b1", "b1:", "v4 = add v1 v2", "branch v0 b2 b1", "b2:", "branch v0 b3 b3", "b3:", "return v4")
	wantChecks(t, "no loop of one head", noneOpen, "b0:", "branch v0 b1 b2", "b1:", "v4 = add v1 v2", "branch v0 b2 b3", "b2:", "jump b1", "b3:", "return v4")
	wantChecks(t, "no loop", noneOpen, "b0:", "v4 = add v1 v2", "branch v0 b1 b2", "b1:", "return v4", "b2:", "out v4", "return v4")
	wantCheck(t, "bare", sample.Bare(), 0, api.OK)
	wantCheck(t, "a line", sample.Line(api.MaxBlocks), 0, api.OK)
	wantCheck(t, "a nest", sample.Nested(255), 0, api.OK)
}

// TestCheckFirstValue: value 0 may leave a loop, too.
func TestCheckFirstValue(t *testing.T) {
	wantCheck(t, "value 0", first(t), 0, api.ErrLoop)
}

// first is a function without parameters, whose value 0 leaves a loop openly.
func first(t *testing.T) api.Func {
	t.Helper()
	return sample.Read(t, "func arrays 0 cells 0", "b0:", "v3 = const 4", "jump b1", "b1:", "v1 = phi int b0 v3 b1 v0", "v4 = const 1", "v0 = sub v1 v4", "v2 = lt v4 v0", "branch v2 b1 b2", "b2:", "return v0")
}

// TestCheckSmall holds functions on all graphs of up to four blocks against the chapter's words.
func TestCheckSmall(t *testing.T) {
	n, open := 0, 0
	sample.EachSmall(func(what string, f api.Func) {
		if n++; n%3 == 0 {
			f = sample.Recalling(f)
			wantCheckByWords(t, what, f)
			open += min(1, len(openByWords(f)))
		}
	})
	if open < 500 || n/3-open < 500 {
		t.Errorf("values leave loops openly in just %d of %d functions", open, n/3)
	}
}

// TestCheckSeeded holds greater functions against the chapter's words.
func TestCheckSeeded(t *testing.T) {
	for seed := range 200 {
		wantCheckByWords(t, fmt.Sprint("seed ", seed), sample.Walking(sample.Reached(t, 4+seed%30, seed)))
		wantCheckByWords(t, fmt.Sprint("seed ", seed, ", recalling"), sample.Recalling(sample.Reached(t, 4+seed%30, seed)))
	}
	for seed := range 150 {
		wantCheckByWords(t, fmt.Sprint("busy ", seed), sample.Busy(2+seed%40, seed))
	}
	for rungs := 1; rungs < 12; rungs++ {
		wantCheckByWords(t, fmt.Sprint(rungs, " rungs"), sample.Recalling(sample.Ladder(rungs)))
		wantCheckByWords(t, fmt.Sprint(rungs, " loops"), sample.Recalling(sample.Nested(rungs)))
	}
}
