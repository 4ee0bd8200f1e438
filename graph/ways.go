package graph

import (
	"slices"

	"strake/api"
)

// graph is a function that is formed, with the ways through it.
type graph struct{ api.Func }

func (g graph) hasEdge(from, k int) bool {
	return 0 <= from && from < len(g.Blocks) && 0 <= k && k < len(g.Blocks[from].Term.To)
}

func (g graph) preds() [][]int {
	preds := make([][]int, len(g.Blocks))
	for b := range g.Blocks {
		for _, to := range g.Blocks[b].Term.To {
			// A branch may go to one block twice.
			if !slices.Contains(preds[to], b) {
				preds[to] = append(preds[to], b)
			}
		}
	}
	return preds
}

// order visits no deeper than there are blocks, so that calls may nest for it.
func (g graph) order() []int {
	begun := make([]bool, len(g.Blocks))
	var done []int
	var visit func(b int)
	visit = func(b int) {
		begun[b] = true
		for _, to := range g.Blocks[b].Term.To {
			if !begun[to] {
				visit(to)
			}
		}
		done = append(done, b)
	}
	visit(0)
	slices.Reverse(done)
	return done
}

func (g graph) reach() []bool {
	reach := make([]bool, len(g.Blocks))
	for _, b := range g.order() {
		reach[b] = true
	}
	return reach
}
