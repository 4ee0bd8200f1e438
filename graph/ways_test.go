package graph_test

import (
	"fmt"
	"slices"
	"testing"

	"strake/api"
	"strake/graph"
	"strake/sample"
)

func wantPreds(t *testing.T, what string, f api.Func, want [][]int) {
	t.Helper()
	got, e := graph.Preds(f)
	if !slices.EqualFunc(got, want, slices.Equal[[]int]) || e != api.OK {
		t.Errorf("%s: Preds answers %v, %d, want %v", what, got, e, want)
	}
}

func wantReach(t *testing.T, what string, f api.Func, want []bool) {
	t.Helper()
	if got, e := graph.Reach(f); !slices.Equal(got, want) || e != api.OK {
		t.Errorf("%s: Reach answers %v, %d, want %v", what, got, e, want)
	}
}

func wantOrder(t *testing.T, what string, f api.Func, want []int) {
	t.Helper()
	if got, e := graph.Order(f); !slices.Equal(got, want) || e != api.OK {
		t.Errorf("%s: Order answers %v, %d, want %v", what, got, e, want)
	}
}

func TestPreds(t *testing.T) {
	wantPreds(t, "bare", sample.Bare(), [][]int{{}})
	wantPreds(t, "rich", sample.Rich(), [][]int{{}, {0, 2}, {1}, {1}, {3}, {}, {}})
	wantPreds(t, "cross", cross(t), [][]int{{}, {}, {0}, {1, 2, 5, 6}, {7}, {0}, {3, 6}, {4}, {3, 4}})
	wantPreds(t, "a block goes to itself", sample.Flagged(t, "b0:", "jump b1", "b1:", "branch v0 b1 b1"), [][]int{{}, {0, 1}})
	f := sample.Line(api.MaxBlocks)
	want := [][]int{{}}
	for b := range api.MaxBlocks - 1 {
		want = append(want, []int{b})
	}
	wantPreds(t, "a line", f, want)
	want, all := [][]int{{}}, []int{}
	for b := range f.Blocks {
		f.Blocks[b].Term = sample.Jump(api.MaxBlocks - 1)
		all = append(all, b)
		want = append(want, nil)
	}
	want = append(want[:api.MaxBlocks-1], all)
	wantPreds(t, "all go to the last", f, want)
}

func TestReach(t *testing.T) {
	wantReach(t, "bare", sample.Bare(), []bool{true})
	wantReach(t, "rich", sample.Rich(), []bool{true, true, true, true, true, false, false})
	wantReach(t, "cross", cross(t), []bool{true, false, true, true, false, true, true, false, true})
	wantReach(t, "backwards", sample.Flagged(t, "b0:", "jump b3", "b1:", "return v0", "b2:", "jump b1", "b3:", "jump b2", "b4:", "jump b4"), []bool{true, true, true, true, false})
	f := sample.Line(api.MaxBlocks)
	want := slices.Repeat([]bool{true}, api.MaxBlocks)
	wantReach(t, "a line", f, want)
	for _, cut := range []int{510, 256, 1, 0} {
		f.Blocks[cut].Term = sample.Trap(1)
		for b := cut + 1; b < api.MaxBlocks; b++ {
			want[b] = false
		}
		wantReach(t, fmt.Sprint("a line, cut behind ", cut), f, want)
	}
}

func TestOrder(t *testing.T) {
	wantOrder(t, "bare", sample.Bare(), []int{0})
	wantOrder(t, "rich", sample.Rich(), []int{0, 1, 3, 4, 2})
	wantOrder(t, "cross", cross(t), []int{0, 2, 5, 3, 8, 6})
	wantOrder(t, "a fork", sample.Flagged(t, "b0:", "branch v0 b1 b2", "b1:", "return v0", "b2:", "return v0"), []int{0, 2, 1})
	wantOrder(t, "a fork, the other way", sample.Flagged(t, "b0:", "branch v0 b2 b1", "b1:", "return v0", "b2:", "return v0"), []int{0, 1, 2})
	wantOrder(t, "two heads", sample.Flagged(t, "b0:", "branch v0 b1 b2", "b1:", "branch v0 b2 b3", "b2:", "jump b1", "b3:", "return v0"), []int{0, 1, 3, 2})
	wantOrder(t, "two heads, the other way", sample.Flagged(t, "b0:", "branch v0 b2 b1", "b1:", "branch v0 b2 b3", "b2:", "jump b1", "b3:", "return v0"), []int{0, 2, 1, 3})
	f := sample.Line(api.MaxBlocks)
	var rising []int
	for b := range api.MaxBlocks {
		rising = append(rising, b)
	}
	wantOrder(t, "a line", f, rising)
	falling := []int{0}
	for b := api.MaxBlocks - 1; b > 0; b-- {
		falling = append(falling, b)
		f.Blocks[b].Term = sample.Jump(max(b-1, 1))
	}
	f.Blocks[0].Term = sample.Jump(api.MaxBlocks - 1)
	wantOrder(t, "a line backwards", f, falling)
}

// predsByPairs asks of each two blocks whether the one goes to the other.
func predsByPairs(f api.Func) [][]int {
	preds := make([][]int, len(f.Blocks))
	for to := range f.Blocks {
		for from := range f.Blocks {
			if slices.Contains(f.Blocks[from].Term.To, to) {
				preds[to] = append(preds[to], from)
			}
		}
	}
	return preds
}

// reachByRounds goes one edge further in each round.
func reachByRounds(f api.Func) []bool {
	reach := make([]bool, len(f.Blocks))
	reach[0] = true
	for range f.Blocks {
		for b, block := range f.Blocks {
			for _, to := range block.Term.To {
				reach[to] = reach[to] || reach[b]
			}
		}
	}
	return reach
}

// orderBySteps keeps the visits that are not done yet in a list of its own.
func orderBySteps(f api.Func) []int {
	type visit struct{ block, next int }
	open, begun := []visit{{0, 0}}, map[int]bool{0: true}
	var order []int
	for len(open) > 0 {
		top := &open[len(open)-1]
		to := f.Blocks[top.block].Term.To
		if top.next == len(to) {
			order = slices.Insert(order, 0, top.block)
			open = open[:len(open)-1]
			continue
		}
		b := to[top.next]
		top.next++
		if !begun[b] {
			begun[b] = true
			open = append(open, visit{b, 0})
		}
	}
	return order
}

// TestWaysOfEachGraph holds the calls against plain ways to tell the same.
func TestWaysOfEachGraph(t *testing.T) {
	for blocks := 1; blocks <= 4; blocks++ {
		sample.EachGraph(blocks, func(what string, f api.Func) {
			wantPreds(t, what, f, predsByPairs(f))
			wantReach(t, what, f, reachByRounds(f))
			wantOrder(t, what, f, orderBySteps(f))
		})
	}
}
