package modular_test

import (
	"fmt"
	"math"
	"math/big"
	"slices"
	"testing"

	"strake/api"
	"strake/modular"
	"strake/sample"
)

func whole(n uint64) *big.Int { return new(big.Int).SetUint64(n) }

// modulus is 2^bits.
func modulus(bits int) *big.Int { return new(big.Int).Lsh(big.NewInt(1), uint(bits)) }

// at is a + b n modulo 2^bits.
func at(a, b, n uint64, bits int) uint64 {
	sum := new(big.Int).Mul(whole(b), whole(n))
	sum.Add(sum, whole(a))
	return sum.Mod(sum, modulus(bits)).Uint64()
}

// plainFirst goes step by step through all the steps that there are.
func plainFirst(a, b, lo, hi uint64, bits int) (uint64, api.Errno) {
	for n := range uint64(1) << bits {
		if v := (a + b*n) % (1 << bits); lo <= v && v <= hi {
			return n, api.OK
		}
	}
	return 0, api.ErrNone
}

// floors adds up the whole parts of (start + step n) / m for all n below rounds, start and step not being below 0.
func floors(rounds, start, step, m *big.Int) *big.Int {
	if rounds.Sign() == 0 {
		return new(big.Int)
	}
	before := new(big.Int).Sub(rounds, big.NewInt(1))
	pairs := new(big.Int).Mul(rounds, before)
	pairs.Rsh(pairs, 1)
	steps, step := new(big.Int).DivMod(step, m, new(big.Int))
	starts, start := new(big.Int).DivMod(start, m, new(big.Int))
	sum := new(big.Int).Mul(steps, pairs)
	sum.Add(sum, new(big.Int).Mul(starts, rounds))
	// What is left are the points below a line, which are counted the other way round.
	end := new(big.Int).Mul(step, rounds)
	height, rest := end.Add(end, start).DivMod(end, m, new(big.Int))
	if height.Sign() == 0 {
		return sum
	}
	return sum.Add(sum, floors(height, rest, m, step))
}

// howMany tells of how many n below rounds a + b n modulo 2^bits is from lo to hi.
func howMany(rounds *big.Int, a, b, lo, hi uint64, bits int) *big.Int {
	m := modulus(bits)
	// A number has come to a bound as often as it, without the bound, has gone round.
	from := func(bound *big.Int) *big.Int {
		start := new(big.Int).Add(whole(a), m)
		return floors(rounds, start.Sub(start, bound), whole(b), m)
	}
	above := new(big.Int).Add(whole(hi), big.NewInt(1))
	return new(big.Int).Sub(from(whole(lo)), from(above))
}

// wantFirst holds First against how many n there are.
func wantFirst(t *testing.T, a, b, lo, hi uint64, bits int) (found bool) {
	t.Helper()
	n, e := modular.First(a, b, lo, hi, bits)
	what := fmt.Sprintf("First(%d, %d, %d, %d, %d): %d, %d", a, b, lo, hi, bits, n, e)
	if e == api.ErrNone {
		if all := howMany(modulus(bits), a, b, lo, hi, bits); n != 0 || all.Sign() != 0 {
			t.Errorf("%s, but %d are there", what, all)
		}
		return false
	}
	if v := at(a, b, n, bits); e != api.OK || v < lo || v > hi {
		t.Errorf("%s, and there it is at %d", what, v)
	} else if before := howMany(whole(n), a, b, lo, hi, bits); before.Sign() != 0 {
		t.Errorf("%s, but %d are ahead of it", what, before)
	}
	return true
}

// wantSolve holds Solve against what it is to be: all that is right lies whole rounds apart.
func wantSolve(t *testing.T, a, b, c uint64, bits int) (found bool) {
	t.Helper()
	n, e := modular.Solve(a, b, c, bits)
	what := fmt.Sprintf("Solve(%d, %d, %d, %d): %d, %d", a, b, c, bits, n, e)
	m := modulus(bits)
	way := new(big.Int).Sub(whole(c), whole(a))
	way.Mod(way, m)
	common := new(big.Int).GCD(nil, nil, whole(b), m)
	if new(big.Int).Mod(way, common).Sign() != 0 {
		if n != 0 || e != api.ErrNone {
			t.Errorf("%s, want error %d", what, api.ErrNone)
		}
		return false
	}
	if at(a, b, n, bits) != new(big.Int).Mod(whole(c), m).Uint64() || e != api.OK {
		t.Errorf("%s: it does not solve it", what)
	} else if apart := m.Quo(m, common); whole(n).Cmp(apart) >= 0 {
		t.Errorf("%s, but all lie %d apart", what, apart)
	}
	return true
}

// numbers are edges, around powers of 2, some that go evenly through all, and others.
func numbers() []uint64 {
	all := []uint64{math.MaxUint64, math.MaxUint64 - 1, 1<<63 - 2, 6, 10, 100, 1000000007, 11400714819323198485, 7046029254386353131, math.MaxUint64 / 3, math.MaxUint64 / 7, 1 << 63 / 5}
	for k := 0; k < 64; k += 3 {
		all = append(all, 1<<k-1, 1<<k, 1<<k+1)
	}
	next := sample.Numbering(3)
	for range 20 {
		all = append(all, uint64(next(1<<24))<<40^uint64(next(1<<24))<<20^uint64(next(1<<24)))
	}
	return all
}

// widths are all that there are, and not.
func widths() (right, wrong []int) {
	for bits := 1; bits <= 64; bits++ {
		right = append(right, bits)
	}
	for _, edge := range append(sample.Edges(), 66, 127, 128, 1<<32, 1<<32+1, -63, -64) {
		if !slices.Contains(right, edge) {
			wrong = append(wrong, edge)
		}
	}
	return right, wrong
}
