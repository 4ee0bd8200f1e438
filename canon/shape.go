package canon

import (
	"maps"
	"slices"

	"strake/api"
	"strake/inside"
)

// shaper makes the loops of a nest plain. Funnels change neither in which loops the nest's blocks are nor which dominate
// which, so what the nest tells holds of the changed function, too.
type shaper struct {
	nest
	changed
}

// shaped may answer a function that is beyond the limits.
func shaped(n nest) api.Func {
	s := shaper{n, changedOf(n.Func)}
	for b := range n.Blocks {
		if at := slices.IndexFunc(n.Loops, func(l api.Loop) bool { return l.Head == b }); at >= 0 {
			s.shapeHead(n.Loops[at])
		} else if parts := s.parts(b, n.preds[b]); len(parts) > 1 {
			s.apart(b, parts)
		}
	}
	return s.made
}

// shapeHead parts entries and latches in any case: what goes to a head comes from within its loop and from outside, so if
// it is where another loop goes on, blocks that are not of that one go there, too.
func (s *shaper) shapeHead(l api.Loop) {
	entries := s.apart(l.Head, s.parts(l.Head, s.entries(l)))
	if len(entries) > 1 || s.made.Blocks[entries[0]].Term.Op != api.Jump {
		s.funnel(l.Head, entries...)
	}
	latches := s.apart(l.Head, s.parts(l.Head, l.Latches))
	if len(latches) > 1 {
		s.funnel(l.Head, latches...)
	}
}

// parts are some blocks that go to one, parted by the loops that they leave for it.
func (s *shaper) parts(to int, from []int) map[int][]int {
	parts := map[int][]int{}
	for _, b := range from {
		left := s.Leaves(b, to)
		parts[left] = append(parts[left], b)
	}
	return parts
}

// apart funnels each part that leaves loops by itself, and tells what goes to the block then.
func (s *shaper) apart(to int, parts map[int][]int) []int {
	var all []int
	for _, left := range slices.Sorted(maps.Keys(parts)) {
		if left == inside.NoLoop {
			all = append(all, parts[left]...)
		} else {
			all = append(all, s.funnel(to, parts[left]...))
		}
	}
	return all
}
