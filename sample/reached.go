package sample

import (
	"strake/api"
	"strake/graph"
)

// EachSmall shows see all graphs of up to four blocks that can all be come to, without phis.
func EachSmall(see func(what string, f api.Func)) {
	for blocks := 1; blocks <= 4; blocks++ {
		EachGraph(blocks, func(what string, f api.Func) {
			g, e := graph.Prune(f)
			if e != api.OK || len(g.Blocks) < blocks {
				return
			}
			for b := range g.Blocks {
				g.Blocks[b].Phis = nil
			}
			see(what, g)
		})
	}
}

// Reached is the part of Seeded's graph that can be come to.
func Reached(t Failer, blocks, seed int) api.Func {
	t.Helper()
	f, e := graph.Prune(Seeded(blocks, seed))
	if e != api.OK {
		t.Fatalf("error %d", e)
	}
	return f
}

// Deep has loops on three levels, two side by side, heads that stand behind their loops' blocks, a block that leaves
// the loops, and a loop with two ways in.
func Deep(t Failer) api.Func {
	t.Helper()
	return Flagged(t,
		"b0:", "jump b9",
		"b1:", "branch v0 b1 b3", // a loop of its own, in that of b3
		"b2:", "branch v0 b3 b5",
		"b3:", "branch v0 b1 b2", // a loop, in that of b9
		"b4:", "jump b10", // leaves all
		"b5:", "branch v0 b6 b4",
		"b6:", "branch v0 b7 b8", // a loop with two ways in, in that of b9
		"b7:", "branch v0 b8 b11",
		"b8:", "branch v0 b7 b12",
		"b9:", "jump b3",
		"b10:", "return v0",
		"b11:", "branch v0 b11 b9", // a loop of its own, in that of b9
		"b12:", "jump b9",
	)
}
