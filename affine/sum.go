package affine

import (
	"cmp"
	"slices"

	"strake/api"
)

// sum is a normal sum.
type sum struct{ api.Sum }

// once is a value itself, one time.
func once(id int) sum { return sum{api.Sum{Parts: []api.Part{{Id: id, Coef: 1}}}} }

// normOf is a sum of any form as a normal one, ErrArg if there is none.
func normOf(s api.Sum) (sum, api.Errno) {
	if slices.ContainsFunc(s.Parts, func(p api.Part) bool { return p.Id < 0 }) {
		return sum{}, api.ErrArg
	}
	return gathered(s.Const, slices.Clone(s.Parts))
}

// added is the sum of sums, ErrArg if it has too many parts.
func added(list ...sum) (sum, api.Errno) {
	number := 0
	var parts []api.Part
	for _, s := range list {
		number += s.Const
		parts = append(parts, s.Parts...)
	}
	return gathered(number, parts)
}

// gathered is the normal sum of a number and of parts in any order, ErrArg if too many are left. It sorts them in place.
func gathered(number int, parts []api.Part) (sum, api.Errno) {
	slices.SortFunc(parts, func(a, b api.Part) int { return cmp.Compare(a.Id, b.Id) })
	var left []api.Part
	for _, p := range parts {
		if last := len(left) - 1; last >= 0 && left[last].Id == p.Id {
			left[last].Coef += p.Coef
		} else {
			left = append(left, p)
		}
	}
	// A part is nothing only when all of its value are together: they may go beyond 64 bits, and round to 0.
	left = slices.DeleteFunc(left, func(p api.Part) bool { return p.Coef == 0 })
	if len(left) > api.MaxTerms {
		return sum{}, api.ErrArg
	}
	return sum{api.Sum{Const: number, Parts: left}}, api.OK
}

// isNumber: has it no parts?
func (s sum) isNumber() bool { return len(s.Parts) == 0 }

func (s sum) times(k int) sum {
	var parts []api.Part
	for _, p := range s.Parts {
		parts = append(parts, api.Part{Id: p.Id, Coef: k * p.Coef})
	}
	scaled, _ := gathered(k*s.Const, parts) // They are no more than they were.
	return scaled
}

// at is what the sum comes to, ErrNone if one of its values is not known.
func (s sum) at(known map[int]int) (int, api.Errno) {
	total := s.Const
	for _, p := range s.Parts {
		value, ok := known[p.Id]
		if !ok {
			return 0, api.ErrNone
		}
		total += p.Coef * value
	}
	return total, api.OK
}
