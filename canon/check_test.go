package canon_test

import (
	"fmt"
	"testing"

	"strake/api"
	"strake/sample"
)

func TestCheck(t *testing.T) {
	wantCheck(t, "bare", sample.Bare(), 0, api.OK)
	wantCheck(t, "a line", sample.Line(api.MaxBlocks), 0, api.OK)
	wantCheck(t, "a nest", sample.Nested(255), 0, api.OK)
	wantCheck(t, "whole", sample.Whole(), 0, api.OK)
	wantCheck(t, "deep", sample.Deep(t), 1, api.ErrLoop)
	wantCheck(t, "both ways", sample.BothWays(), 1, api.ErrLoop)
	for _, c := range []struct {
		what  string
		lines []string
		head  int
	}{
		{"a block goes to itself", []string{"b0:", "jump b1", "b1:", "branch v0 b1 b2", "b2:", "return v0"}, 0},
		{"a block goes just to itself", []string{"b0:", "jump b1", "b1:", "branch v0 b1 b1"}, 0},
		{"its latch branches", []string{"b0:", "jump b1", "b1:", "branch v0 b2 b3", "b2:", "branch v0 b1 b3", "b3:", "return v0"}, 0},
		{"its latch goes back twice", []string{"b0:", "jump b1", "b1:", "branch v0 b2 b3", "b2:", "branch v0 b1 b1", "b3:", "return v0"}, 0},
		{"some ways out", []string{"b0:", "jump b1", "b1:", "branch v0 b2 b3", "b2:", "branch v0 b1 b4", "b3:", "jump b5", "b4:", "jump b5", "b5:", "return v0"}, 0},
		{"no loop", []string{"b0:", "branch v0 b1 b2", "b1:", "jump b3", "b2:", "branch v0 b3 b3", "b3:", "return v0"}, 0},
		{"just a loop with two ways in", []string{"b0:", "branch v0 b1 b2", "b1:", "jump b2", "b2:", "jump b1"}, 0},
		{"two go to its head", []string{"b0:", "branch v0 b1 b2", "b1:", "jump b3", "b2:", "jump b3", "b3:", "branch v0 b3 b4", "b4:", "return v0"}, 3},
		{"one goes to its head, but elsewhere, too", []string{"b0:", "branch v0 b1 b2", "b1:", "jump b1", "b2:", "return v0"}, 1},
		{"one branches to its head alone", []string{"b0:", "branch v0 b1 b1", "b1:", "jump b1"}, 1},
		{"two latches", []string{"b0:", "jump b1", "b1:", "branch v0 b1 b2", "b2:", "branch v0 b1 b3", "b3:", "return v0"}, 1},
		{"a way out to a block that is come to otherwise", []string{"b0:", "branch v0 b1 b3", "b1:", "jump b2", "b2:", "branch v0 b2 b3", "b3:", "return v0"}, 2},
		{"one of some ways out", []string{"b0:", "branch v0 b1 b4", "b1:", "jump b2", "b2:", "branch v0 b3 b5", "b3:", "branch v0 b2 b4", "b4:", "return v0", "b5:", "trap 1"}, 2},
		{"a way out of one within, and one of one around", []string{"b0:", "jump b1", "b1:", "jump b2", "b2:", "branch v0 b3 b4",
			"b3:", "branch v0 b2 b5", "b4:", "branch v0 b1 b5", "b5:", "return v0"}, 2},
		{"a way out to the head of one around", []string{"b0:", "jump b1", "b1:", "jump b2", "b2:", "branch v0 b2 b1"}, 2},
		{"a way out to the next one's head", []string{"b0:", "jump b1", "b1:", "branch v0 b1 b2", "b2:", "branch v0 b2 b3", "b3:", "return v0"}, 1},
		{"the second alone", []string{"b0:", "jump b1", "b1:", "branch v0 b1 b2", "b2:", "jump b3", "b3:", "branch v0 b3 b4", "b4:", "jump b5", "b5:", "branch v0 b4 b3"}, 3},
		{"the one around, with the greater number", []string{"b0:", "branch v0 b3 b3", "b1:", "branch v0 b1 b2", "b2:", "jump b3", "b3:", "jump b4", "b4:", "jump b1"}, 3},
	} {
		f := sample.Flagged(t, c.lines...)
		if c.head == 0 {
			wantCheck(t, c.what, f, 0, api.OK)
		} else {
			wantCheck(t, c.what, f, c.head, api.ErrLoop)
		}
		wantCheckByWords(t, c.what, f)
	}
}

// TestCheckSmall holds all graphs of up to four blocks against the chapter's words.
func TestCheckSmall(t *testing.T) {
	all, plain := 0, 0
	sample.EachSmall(func(what string, f api.Func) {
		wantCheckByWords(t, what, f)
		if len(heads(f)) > 0 {
			all++
			if firstOdd(t, f) == 0 {
				plain++
			}
		}
	})
	if plain < 500 || all-plain < 500 {
		t.Errorf("just %d graphs with loops, of %d of them all are plain", all, plain)
	}
}

// TestCheckSeeded holds greater graphs, and functions with phis and code, against the chapter's words.
func TestCheckSeeded(t *testing.T) {
	for seed := range 300 {
		wantCheckByWords(t, fmt.Sprint("seed ", seed), sample.Reached(t, 4+seed%30, seed))
	}
	for seed := range 100 {
		wantCheckByWords(t, fmt.Sprint("busy ", seed), sample.Busy(2+seed%40, seed))
	}
	for rungs := 1; rungs < 12; rungs++ {
		wantCheckByWords(t, fmt.Sprint(rungs, " rungs"), sample.Ladder(rungs))
	}
	wantCheckByWords(t, "a ladder", sample.Ladder(255))
	wantCheckByWords(t, "both ways", sample.BothWays())
}
