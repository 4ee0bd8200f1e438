package canon

import (
	"maps"
	"slices"

	"strake/api"
)

// noLoop stands for the loop of a block that is in none, and for what is left by a way that leaves none.
const noLoop = -1

// shaper makes the loops of a nest plain. Funnels change neither in which loops the nest's blocks are nor which dominate
// which, so what the nest tells holds of the changed function, too.
type shaper struct {
	nest
	changed
	least []int // of each block of the nest the least loop that it is in
}

// shaped may answer a function that is beyond the limits.
func shaped(n nest) api.Func {
	s := shaper{n, changedOf(n.Func), leastLoops(n)}
	for b := range n.Blocks {
		if at := slices.IndexFunc(n.loops, func(l api.Loop) bool { return l.Head == b }); at >= 0 {
			s.shapeHead(n.loops[at])
		} else if parts := s.parts(b, n.preds[b]); len(parts) > 1 {
			s.apart(b, parts)
		}
	}
	return s.made
}

// leastLoops: as of two loops that share a block one has all of the other's, the least one tells all that a block is in.
func leastLoops(n nest) []int {
	least := slices.Repeat([]int{noLoop}, len(n.Blocks))
	for i, l := range n.loops {
		for _, b := range l.Blocks {
			if least[b] == noLoop || len(l.Blocks) < len(n.loops[least[b]].Blocks) {
				least[b] = i
			}
		}
	}
	return least
}

// shapeHead parts entries and latches in any case: what goes to a head comes from within its loop and from outside, so if
// it is where another loop goes on, blocks that are not of that one go there, too.
func (s *shaper) shapeHead(l api.Loop) {
	entries := s.apart(l.Head, s.parts(l.Head, s.entries(l)))
	if len(entries) > 1 || s.made.Blocks[entries[0]].Term.Op != api.Jump {
		s.funnel(l.Head, entries...)
	}
	latches := s.apart(l.Head, s.parts(l.Head, l.Latches))
	if len(latches) > 1 {
		s.funnel(l.Head, latches...)
	}
}

// leaves tells all loops that a way leaves by the least of them.
func (s *shaper) leaves(from, to int) int {
	if least := s.least[from]; least != noLoop && !has(s.loops[least], to) {
		return least
	}
	return noLoop
}

// parts are some blocks that go to one, parted by the loops that they leave for it.
func (s *shaper) parts(to int, from []int) map[int][]int {
	parts := map[int][]int{}
	for _, b := range from {
		left := s.leaves(b, to)
		parts[left] = append(parts[left], b)
	}
	return parts
}

// apart funnels each part that leaves loops by itself, and tells what goes to the block then.
func (s *shaper) apart(to int, parts map[int][]int) []int {
	var all []int
	for _, left := range slices.Sorted(maps.Keys(parts)) {
		if left == noLoop {
			all = append(all, parts[left]...)
		} else {
			all = append(all, s.funnel(to, parts[left]...))
		}
	}
	return all
}
