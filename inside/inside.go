// Package inside tells which loops blocks are in, for layers that ask what goes on between a loop's blocks and others.
package inside

import (
	"slices"

	"strake/api"
	"strake/loops"
)

// NoLoop stands for the loop of a block that is in none, and for what is left by a way that leaves none.
const NoLoop = -1

// Nest is a function's loops, by their heads.
type Nest struct {
	Loops []api.Loop
	least []int // of each block the least loop that it is in
}

// NestOf answers the error of loops.Forest, if there is one.
func NestOf(f api.Func) (Nest, api.Errno) {
	all, e := loops.Forest(f)
	if e != api.OK {
		return Nest{}, e
	}
	return Nest{all, leastOf(all, len(f.Blocks))}, api.OK
}

// leastOf: as of two loops that share a block one has all of the other's, the least one tells all that a block is in.
func leastOf(all []api.Loop, blocks int) []int {
	least := slices.Repeat([]int{NoLoop}, blocks)
	for i, l := range all {
		for _, b := range l.Blocks {
			if least[b] == NoLoop || len(l.Blocks) < len(all[least[b]].Blocks) {
				least[b] = i
			}
		}
	}
	return least
}

// Leaves is the least loop that a way from one block to another leaves, NoLoop if there is none: with it the way leaves
// some of those around it, perhaps.
func (n Nest) Leaves(from, to int) int {
	if least := n.least[from]; least != NoLoop && !Has(n.Loops[least], to) {
		return least
	}
	return NoLoop
}

// Has tells whether a block is in a loop.
func Has(l api.Loop, b int) bool {
	_, found := slices.BinarySearch(l.Blocks, b)
	return found
}
