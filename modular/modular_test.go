package modular_test

import (
	"math"
	"math/big"
	"testing"

	"strake/api"
	"strake/modular"
	"strake/sample"
)

const most = math.MaxUint64

// TestInverse (P13.1).
func TestInverse(t *testing.T) {
	for _, c := range []struct{ a, want int }{
		{1, 1}, {-1, -1}, {3, -6148914691236517205}, {-3, 6148914691236517205}, {5, -3689348814741910323},
		{math.MaxInt, math.MaxInt}, {math.MinInt + 1, math.MinInt + 1},
	} {
		if n, e := modular.Inverse(c.a); n != c.want || e != api.OK {
			t.Errorf("Inverse(%d): %d, %d, want %d", c.a, n, e, c.want)
		}
	}
	for _, number := range numbers() {
		a := int(number)
		want, wantE := 0, api.ErrNone
		if a%2 != 0 {
			want, wantE = int(new(big.Int).ModInverse(whole(number), modulus(64)).Uint64()), api.OK
		}
		if n, e := modular.Inverse(a); n != want || e != wantE {
			t.Errorf("Inverse(%d): %d, %d, want %d, %d", a, n, e, want, wantE)
		}
	}
}

// TestInverseOfEven (P13.1): there is none.
func TestInverseOfEven(t *testing.T) {
	for _, a := range []int{0, 2, -2, 6, 1 << 32, 1 << 62, math.MinInt, math.MinInt + 2, math.MaxInt - 1} {
		if n, e := modular.Inverse(a); n != 0 || e != api.ErrNone {
			t.Errorf("Inverse(%d): %d, %d, want error %d", a, n, e, api.ErrNone)
		}
	}
}

// TestSolve (P13.2).
func TestSolve(t *testing.T) {
	for _, c := range []struct {
		a, b, c uint64
		bits    int
		n       uint64
		e       api.Errno
	}{
		{1, 4, 13, 4, 3, api.OK}, {0, 4, 2, 8, 0, api.ErrNone},
		{0, 1, 0, 1, 0, api.OK}, {0, 1, 1, 1, 1, api.OK}, {1, 1, 0, 1, 1, api.OK}, {0, 0, 1, 1, 0, api.ErrNone}, {1, 2, 0, 1, 0, api.ErrNone}, {1, 2, 3, 1, 0, api.OK},
		{9, 0, 9, 8, 0, api.OK}, {9, 0, 8, 8, 0, api.ErrNone}, {9, 256, 9, 8, 0, api.OK}, {9, 256, 265, 8, 0, api.OK}, {9, 256, 265, 9, 1, api.OK},
		{7, 5, 7, 32, 0, api.OK}, {7, 5, 6, 32, 858993459, api.OK}, {7, 1<<32 + 5, 6 + 7<<32, 32, 858993459, api.OK},
		{13, 4, 1, 4, 1, api.OK}, {13, 4, 9, 4, 3, api.OK}, {13, 4, 2, 4, 0, api.ErrNone},
		{0, most, 1, 64, most, api.OK}, {most, 1, 0, 64, 1, api.OK}, {0, 1 << 63, 1 << 63, 64, 1, api.OK}, {0, 1 << 63, 1 << 62, 64, 0, api.ErrNone},
		{1 << 63, 3 << 62, 0, 64, 2, api.OK}, {0, 6, most - 1, 64, 6148914691236517205, api.OK}, {0, 0, 1 << 63, 64, 0, api.ErrNone}, {0, 0, 1 << 63, 63, 0, api.OK},
	} {
		if n, e := modular.Solve(c.a, c.b, c.c, c.bits); n != c.n || e != c.e {
			t.Errorf("Solve(%d, %d, %d, %d): %d, %d, want %d, %d", c.a, c.b, c.c, c.bits, n, e, c.n, c.e)
		}
	}
}

// TestSolveNarrow (P13.2) has all numbers of few bits, and beyond.
func TestSolveNarrow(t *testing.T) {
	for bits := 1; bits <= 5; bits++ {
		size := uint64(2) << bits
		for k := range size * size * size {
			a, b, c := k%size, k/size%size, k/size/size
			want, wantE := plainFirst(a, b, c%(1<<bits), c%(1<<bits), bits)
			if n, e := modular.Solve(a, b, c, bits); n != want || e != wantE {
				t.Errorf("Solve(%d, %d, %d, %d): %d, %d, want %d, %d", a, b, c, bits, n, e, want, wantE)
			}
		}
	}
}

// TestSolveWide (P13.2) has all widths: what has a solution, and anything.
func TestSolveWide(t *testing.T) {
	all := numbers()
	right, _ := widths()
	counts := map[bool]int{}
	for i, a := range all {
		for k, b := range all {
			bits := right[(13*i+k)%len(right)]
			counts[wantSolve(t, a, b, all[(i+7*k)%len(all)], bits)]++
			counts[wantSolve(t, a, b, all[(5*i+k)%len(all)], 64)]++
			if !wantSolve(t, a, b, a+b*all[(3*i+11*k)%len(all)], bits) {
				t.Errorf("a solution of %d and %d, %d bits, is not found", a, b, bits)
			}
		}
	}
	if counts[true] < 1000 || counts[false] < 1000 {
		t.Errorf("just %d had a solution, and %d had none", counts[true], counts[false])
	}
}

// TestFirst (P13.3).
func TestFirst(t *testing.T) {
	for _, c := range []struct {
		a, b, lo, hi uint64
		bits         int
		n            uint64
		e            api.Errno
	}{
		{0, 7, 3, 4, 4, 5, api.OK}, {5, 2, 0, 0, 4, 0, api.ErrNone},
		{0, 0, 0, 0, 1, 0, api.OK}, {0, 0, 1, 1, 1, 0, api.ErrNone}, {0, 1, 1, 1, 1, 1, api.OK}, {1, 1, 0, 0, 1, 1, api.OK}, {3, 2, 0, 0, 1, 0, api.ErrNone},
		{4, 9, 4, 4, 8, 0, api.OK}, {4, 9, 0, 4, 8, 0, api.OK}, {4, 9, 4, 9, 8, 0, api.OK}, {4, 9, 5, 13, 8, 1, api.OK}, {4, 9, 0, 3, 8, 28, api.OK}, {4, 9, 255, 255, 8, 227, api.OK},
		{260, 265, 5, 13, 8, 1, api.OK}, {260, 256, 4, 4, 8, 0, api.OK}, {260, 256, 5, 255, 8, 0, api.ErrNone},
		{100, 255, 90, 95, 8, 5, api.OK}, {100, 255, 101, 101, 8, 255, api.OK}, {100, 128, 101, 227, 8, 0, api.ErrNone}, {100, 128, 101, 228, 8, 1, api.OK},
		{0, 1, most, most, 64, most, api.OK}, {0, most, 1, 1, 64, most, api.OK}, {1, most, most, most, 64, 2, api.OK}, {most, most, 0, most, 64, 0, api.OK},
		{0, 1 << 63, 1, most, 64, 1, api.OK}, {0, 1 << 63, 1, 1<<63 - 1, 64, 0, api.ErrNone}, {0, 1<<63 + 1, 1, 1, 64, 1<<63 + 1, api.OK}, {0, 1<<63 - 1, most, most, 64, 1<<63 + 1, api.OK},
		{0, 3, 1, 1, 64, 12297829382473034411, api.OK}, {0, 3, 1, 2, 64, 6148914691236517206, api.OK}, {10, 1 << 32, 1 << 40, 1<<40 + 9, 64, 0, api.ErrNone}, {10, 1 << 32, 1 << 40, 1<<40 + 10, 64, 256, api.OK},
	} {
		if n, e := modular.First(c.a, c.b, c.lo, c.hi, c.bits); n != c.n || e != c.e {
			t.Errorf("First(%d, %d, %d, %d, %d): %d, %d, want %d, %d", c.a, c.b, c.lo, c.hi, c.bits, n, e, c.n, c.e)
		}
	}
}

// TestFirstNarrow (P13.3) has all numbers of few bits, starts and steps beyond, too.
func TestFirstNarrow(t *testing.T) {
	for bits := 1; bits <= 5; bits++ {
		for k := range uint64(1) << (4*bits + 2) {
			a, b := k%(2<<bits), k>>(bits+1)%(2<<bits)
			lo, hi := k>>(2*bits+2)%(1<<bits), k>>(3*bits+2)
			if lo > hi {
				continue
			}
			want, wantE := plainFirst(a, b, lo, hi, bits)
			if n, e := modular.First(a, b, lo, hi, bits); n != want || e != wantE {
				t.Errorf("First(%d, %d, %d, %d, %d): %d, %d, want %d, %d", a, b, lo, hi, bits, n, e, want, wantE)
			}
		}
	}
}

// TestFirstWide (P13.3) has all widths: spans of one number, of some, and of many.
func TestFirstWide(t *testing.T) {
	all := numbers()
	right, _ := widths()
	next := sample.Numbering(8)
	counts := map[bool]int{}
	for i, a := range all {
		for k, b := range all {
			bits := right[(i+17*k)%len(right)]
			if k%2 == 0 {
				bits = 64
			}
			top := uint64(most) >> (64 - bits)
			lo := all[(5*i+3*k)%len(all)] & top
			for _, size := range []uint64{0, 1, uint64(next(9)), all[next(len(all))], top >> next(64)} {
				counts[wantFirst(t, a, b, lo, lo+min(size, top-lo), bits)]++
			}
		}
	}
	if counts[true] < 1000 || counts[false] < 1000 {
		t.Errorf("just %d had a first one, and %d had none", counts[true], counts[false])
	}
}

// TestFirstOfOne: where the span is one number, First is Solve.
func TestFirstOfOne(t *testing.T) {
	all := numbers()
	right, _ := widths()
	for i, a := range all {
		for k, b := range all {
			bits := right[(7*i+k)%len(right)]
			c := (a + b*all[(i+k)%len(all)] + uint64(i%3)) & (most >> (64 - bits))
			n, e := modular.First(a, b, c, c, bits)
			want, wantE := modular.Solve(a, b, c, bits)
			if n != want || e != wantE {
				t.Errorf("First(%d, %d, %d, %d, %d): %d, %d, but Solve: %d, %d", a, b, c, c, bits, n, e, want, wantE)
			}
		}
	}
}
