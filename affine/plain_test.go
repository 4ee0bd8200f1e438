package affine_test

import (
	"fmt"
	"maps"
	"slices"
	"testing"

	"strake/affine"
	"strake/api"
	"strake/graph"
	"strake/ir"
	"strake/sample"
)

// plain is a sum by the chapter's words: a number, and by their Ids how often values are in it, without those that are
// not. Numbers without signs wrap as the words say.
type plain struct {
	number uint64
	coefs  map[int]uint64
}

func (p plain) count(id int, coef uint64) {
	p.coefs[id] += coef
	if p.coefs[id] == 0 {
		delete(p.coefs, id)
	}
}

func plainOf(s api.Sum) plain {
	p := plain{uint64(s.Const), map[int]uint64{}}
	for _, part := range s.Parts {
		p.count(part.Id, uint64(part.Coef))
	}
	return p
}

// mixed is a, k times, and b, l times.
func mixed(a plain, k uint64, b plain, l uint64) plain {
	p := plain{k*a.number + l*b.number, map[int]uint64{}}
	for id, coef := range a.coefs {
		p.count(id, k*coef)
	}
	for id, coef := range b.coefs {
		p.count(id, l*coef)
	}
	return p
}

func (p plain) sum() api.Sum {
	s := api.Sum{Const: int(p.number)}
	for _, id := range slices.Sorted(maps.Keys(p.coefs)) {
		s.Parts = append(s.Parts, api.Part{Id: id, Coef: int(p.coefs[id])})
	}
	return s
}

// errorOf is Norm's error of a sum.
func errorOf(s api.Sum) api.Errno {
	below := slices.ContainsFunc(s.Parts, func(p api.Part) bool { return p.Id < 0 })
	if below || len(plainOf(s).coefs) > api.MaxTerms {
		return api.ErrArg
	}
	return api.OK
}

// plainSums are the sums of all values that are Int, of a strict function. They are told in an order in which what an
// instruction takes is told ahead of it.
func plainSums(f api.Func) map[int]plain {
	all := map[int]plain{}
	itself := func(id, typ int) {
		if typ == api.Int {
			all[id] = plain{0, map[int]uint64{id: 1}}
		}
	}
	for id, typ := range f.Params {
		itself(id, typ)
	}
	order, _ := graph.Order(f)
	for _, b := range order {
		for _, p := range f.Blocks[b].Phis {
			itself(p.Id, p.Type)
		}
		for _, in := range f.Blocks[b].Code {
			if made, ok := plainMade(all, in); ok && len(made.coefs) <= api.MaxTerms {
				all[in.Id] = made
			} else {
				typ, _, _ := ir.Args(in.Op)
				itself(in.Id, typ)
			}
		}
	}
	return all
}

func plainMade(all map[int]plain, in api.Instr) (plain, bool) {
	if in.Op == api.OpConst {
		return plain{number: uint64(in.N)}, true
	}
	if in.Op != api.OpAdd && in.Op != api.OpSub && in.Op != api.OpMul && in.Op != api.OpShl {
		return plain{}, false
	}
	a, b := all[in.Args[0]], all[in.Args[1]]
	switch {
	case in.Op == api.OpAdd:
		return mixed(a, 1, b, 1), true
	case in.Op == api.OpSub:
		return mixed(a, 1, b, 1<<64-1), true
	case in.Op == api.OpMul && len(a.coefs) == 0:
		return mixed(b, a.number, plain{}, 0), true
	case in.Op == api.OpMul && len(b.coefs) == 0:
		return mixed(a, b.number, plain{}, 0), true
	case in.Op == api.OpShl && len(b.coefs) == 0:
		return mixed(a, 1<<(b.number%64), plain{}, 0), true
	}
	return plain{}, false
}

// sumOf is a number, and values, each an Id and how often it is in the sum.
func sumOf(number int, parts ...int) api.Sum {
	s := api.Sum{Const: number}
	for i := 0; i < len(parts); i += 2 {
		s.Parts = append(s.Parts, api.Part{Id: parts[i], Coef: parts[i+1]})
	}
	return s
}

func sameSum(a, b api.Sum) bool { return a.Const == b.Const && slices.Equal(a.Parts, b.Parts) }

func wantSum(t *testing.T, what string, got api.Sum, e api.Errno, want api.Sum, wantE api.Errno) {
	t.Helper()
	if !sameSum(got, want) || e != wantE {
		t.Errorf("%s: %v, %d, want %v, %d", what, got, e, want, wantE)
	}
}

// wantOf holds Of of one value against what it is to be.
func wantOf(t *testing.T, what string, f api.Func, id int, want api.Sum, wantE api.Errno) {
	t.Helper()
	got, e := affine.Of(f, id)
	wantSum(t, fmt.Sprint(what, ", value ", id), got, e, want, wantE)
}

// wantPlain holds Of of all values of a strict function, and of some that are none, against the plain words.
func wantPlain(t *testing.T, what string, f api.Func) {
	t.Helper()
	sums := plainSums(f)
	ids, _ := ir.Ids(f)
	for _, id := range append(ids, sample.Edges()...) {
		if sum, ok := sums[id]; ok {
			wantOf(t, what, f, id, sum.sum(), api.OK)
		} else if slices.Contains(ids, id) {
			wantOf(t, what, f, id, api.Sum{}, api.ErrType)
		} else {
			wantOf(t, what, f, id, api.Sum{}, api.ErrNone)
		}
	}
}

// many has so many parts, of values from first on, each so far from the one ahead.
func many(parts, first, step int) api.Sum {
	s := api.Sum{Const: parts}
	for i := range parts {
		s.Parts = append(s.Parts, api.Part{Id: first + i*step, Coef: 5 - 2*(i%5)})
	}
	return s
}

// seeded is a sum of values with Ids below some number, of small numbers, of great ones, and of such as vanish together.
func seeded(parts, below, seed int) api.Sum {
	next := sample.Numbering(seed)
	coefs := append(sample.Edges(), 1<<62, -1<<62, 1<<61, -1<<61, 0x5555555555555555)
	s := api.Sum{Const: coefs[next(len(coefs))]}
	for range parts {
		s.Parts = append(s.Parts, api.Part{Id: next(below), Coef: coefs[next(len(coefs))]})
	}
	return s
}

// sums are of all forms, with and without a normal one.
func sums() []api.Sum {
	all := []api.Sum{
		{}, {Parts: []api.Part{}}, sumOf(7), sumOf(-1<<63, 3, 1), sumOf(1, 4, 2, 3, 1), sumOf(0, 5, 1, 5, -1), sumOf(2, 0, 0), sumOf(2, 9, -1<<63, 9, -1<<63),
		sumOf(3, -1, 1), sumOf(3, -1, 0), sumOf(3, 8, 2, -1<<63, 5), sumOf(3, -1, 1, -1, -1),
		many(api.MaxTerms, 0, 1), many(api.MaxTerms, 500, -2), many(api.MaxTerms+1, 0, 1), many(api.MaxTerms+1, 500, -2), many(500, 7, 3),
	}
	for seed := range 40 {
		all = append(all, seeded(seed, 1+seed/2, seed), seeded(20*seed, 1+4*seed, seed), seeded(50+seed, 1000, seed))
	}
	return all
}
