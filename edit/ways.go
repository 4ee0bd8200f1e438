package edit

import (
	"cmp"
	"slices"

	"strake/api"
)

// way is what a phi has from a block.
type way struct{ from, val int }

func waysOf(p api.Phi) []way {
	var ways []way
	for i, from := range p.From {
		ways = append(ways, way{from, p.Vals[i]})
	}
	return ways
}

func addWays(p *api.Phi, ways []way) {
	for _, w := range ways {
		p.From, p.Vals = append(p.From, w.from), append(p.Vals, w.val)
	}
}

func setWays(p *api.Phi, ways []way) {
	p.From, p.Vals = nil, nil
	addWays(p, ways)
}

func sortWays(ways []way) {
	slices.SortFunc(ways, func(a, b way) int { return cmp.Compare(a.from, b.from) })
}
