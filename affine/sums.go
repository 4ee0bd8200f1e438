package affine

import "strake/api"

// sums are those of a strict function's values.
type sums struct {
	api.Func
	made  map[int]api.Instr // of each value that an instruction makes that instruction
	known map[int]sum       // what was told already: without it, values that are used twice would be told again and again
}

func sumsOf(f api.Func) sums {
	s := sums{f, map[int]api.Instr{}, map[int]sum{}}
	for _, b := range s.Blocks {
		for _, in := range b.Code {
			s.made[in.Id] = in
		}
	}
	return s
}

// of is the sum of a value that is Int.
func (s sums) of(id int) sum {
	if known, ok := s.known[id]; ok {
		return known
	}
	told, e := s.told(s.made[id])
	if e != api.OK {
		told = once(id)
	}
	s.known[id] = told
	return told
}

// told is what an instruction makes of its arguments' sums, an error if that is no sum, or has too many parts. Where a
// value is a parameter or a phi, there is no instruction, and no sum.
func (s sums) told(in api.Instr) (sum, api.Errno) {
	switch in.Op {
	case api.OpConst:
		return sum{api.Sum{Const: in.N}}, api.OK
	case api.OpAdd:
		return added(s.of(in.Args[0]), s.of(in.Args[1]))
	case api.OpSub:
		return added(s.of(in.Args[0]), s.of(in.Args[1]).times(-1))
	case api.OpMul:
		return product(s.of(in.Args[0]), s.of(in.Args[1]))
	case api.OpShl:
		return shifted(s.of(in.Args[0]), s.of(in.Args[1]))
	}
	return sum{}, api.ErrNone
}

// product is ErrNone, if neither sum is a number.
func product(a, b sum) (sum, api.Errno) {
	switch {
	case a.isNumber():
		return b.times(a.Const), api.OK
	case b.isNumber():
		return a.times(b.Const), api.OK
	}
	return sum{}, api.ErrNone
}

// shifted is ErrNone, if it is not known how far.
func shifted(a, by sum) (sum, api.Errno) {
	if !by.isNumber() {
		return sum{}, api.ErrNone
	}
	return a.times(1 << (uint(by.Const) % 64)), api.OK
}
