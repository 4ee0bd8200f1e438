package repair_test

import (
	"slices"

	"strake/api"
	"strake/sample"
)

// plainNeeded goes the ways from a block's beginning until the cell is asked for or set.
func plainNeeded(f api.Func, block, cell int) bool {
	seen := map[int]int{}
	open := []int{block}
	for len(open) > 0 {
		b := open[0]
		open = open[1:]
		if seen[b]++; seen[b] > 1 {
			continue
		}
		set := false
		for _, in := range f.Blocks[b].Code {
			if in.Op == api.OpGet && in.N == cell && !set {
				return true
			}
			set = set || in.Op == api.OpSet && in.N == cell
		}
		if !set {
			open = append(open, f.Blocks[b].Term.To...)
		}
	}
	return false
}

// plainFrontiers are for functions whose blocks can all be come to.
func plainFrontiers(f api.Func) [][]int {
	all := make([][]int, len(f.Blocks))
	for a := range all {
		without := sample.Without(f, a)
		for b := range f.Blocks {
			comes := false
			for p, block := range f.Blocks {
				comes = comes || !without[p] && slices.Contains(block.Term.To, b)
			}
			if comes && (without[b] || a == b) {
				all[a] = append(all[a], b)
			}
		}
	}
	return all
}

func sets(b api.Block, cell int) bool {
	return slices.ContainsFunc(b.Code, func(in api.Instr) bool { return in.Op == api.OpSet && in.N == cell })
}

// plainPlaces lets the set of each cell grow by a block at a time.
func plainPlaces(f api.Func) [][]int {
	frontiers := plainFrontiers(f)
	all := make([][]int, f.Cells)
	for cell := range all {
		belongs := func(b int) bool {
			for a, block := range f.Blocks {
				if (sets(block, cell) || a == 0 || slices.Contains(all[cell], a)) && slices.Contains(frontiers[a], b) {
					return plainNeeded(f, b, cell)
				}
			}
			return false
		}
		for grown := true; grown; {
			grown = false
			for b := range f.Blocks {
				if !slices.Contains(all[cell], b) && belongs(b) {
					all[cell] = append(all[cell], b)
					grown = true
				}
			}
		}
		slices.Sort(all[cell])
	}
	return all
}
