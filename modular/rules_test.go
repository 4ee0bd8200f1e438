package modular_test

import (
	"fmt"
	"testing"

	"strake/api"
	"strake/modular"
	"strake/sample"
)

// guarded tells what comes of a call.
func guarded(t *testing.T, what string, call func() (uint64, api.Errno)) (n uint64, e api.Errno) {
	t.Helper()
	defer func() {
		if r := recover(); r != nil {
			t.Errorf("%s: panic: %v", what, r)
		}
	}()
	return call()
}

func wantArg(t *testing.T, what string, n uint64, e api.Errno) {
	t.Helper()
	if n != 0 || e != api.ErrArg {
		t.Errorf("%s: %d, %d, want error %d", what, n, e, api.ErrArg)
	}
}

// TestWrongWidth (P13.2, P13.3): any width that is not from 1 to 64 is an error, whatever else is asked.
func TestWrongWidth(t *testing.T) {
	_, wrong := widths()
	for _, bits := range wrong {
		for i, a := range numbers() {
			for _, b := range []uint64{0, 1, 3, a} {
				what := fmt.Sprintf("%d bits, from %d by %d", bits, a, b)
				n, e := guarded(t, what, func() (uint64, api.Errno) { return modular.Solve(a, b, a, bits) })
				wantArg(t, what+", Solve", n, e)
				n, e = guarded(t, what, func() (uint64, api.Errno) { return modular.First(a, b, uint64(i), a, bits) })
				wantArg(t, what+", First", n, e)
			}
		}
	}
}

// TestWrongSpan (P13.3): a span that is empty, or goes beyond the modulus, is an error, ahead of there being none (R2).
func TestWrongSpan(t *testing.T) {
	right, _ := widths()
	for _, bits := range right {
		top := uint64(most) >> (64 - bits)
		for _, a := range numbers() {
			spans := [][2]uint64{{1, 0}, {top, top - 1}, {top, 0}, {most, 0}, {most, top - 1}, {a | 1, a &^ 1}}
			if bits < 64 {
				spans = append(spans, [2]uint64{0, top + 1}, [2]uint64{top + 1, top + 1}, [2]uint64{top + 1, 0}, [2]uint64{0, most}, [2]uint64{top, most}, [2]uint64{most, most}, [2]uint64{0, a&^top | (top + 1)})
			}
			for _, span := range spans {
				for _, b := range []uint64{0, 1, a} {
					n, e := modular.First(a, b, span[0], span[1], bits)
					wantArg(t, fmt.Sprintf("First(%d, %d, %d, %d, %d)", a, b, span[0], span[1], bits), n, e)
				}
			}
		}
	}
}

// calls are all calls, with numbers at the ends in all places.
func calls() map[string]func() (uint64, api.Errno) {
	all, edges := map[string]func() (uint64, api.Errno){}, sample.Edges()
	for i, a := range edges {
		all[fmt.Sprintf("Inverse(%d)", a)] = func() (uint64, api.Errno) {
			n, e := modular.Inverse(a)
			return uint64(n), e
		}
		for k, b := range edges {
			for turn := range 4 {
				c, bits := edges[(3*i+k+5*turn)%len(edges)], edges[(i+5*k+turn)%len(edges)]
				all[fmt.Sprintf("Solve(%d, %d, %d, %d)", a, b, c, bits)] = func() (uint64, api.Errno) {
					return modular.Solve(uint64(a), uint64(b), uint64(c), bits)
				}
				all[fmt.Sprintf("First(%d, %d, %d, %d, %d)", a, b, c, a, bits)] = func() (uint64, api.Errno) {
					return modular.First(uint64(a), uint64(b), uint64(c), uint64(a), bits)
				}
			}
		}
	}
	return all
}

// TestAnyArgument: every call answers (R1), with 0 beside an error (R3).
func TestAnyArgument(t *testing.T) {
	for what, call := range calls() {
		n, e := guarded(t, what, call)
		if e != api.OK && (n != 0 || e != api.ErrNone && e != api.ErrArg) {
			t.Errorf("%s: %d, %d", what, n, e)
		}
	}
}

// TestNothingIsKept: what was asked ahead does not matter (R5), as calls come in another order each time.
func TestNothingIsKept(t *testing.T) {
	all, want := calls(), map[string]string{}
	for round := range 3 {
		for what, call := range all {
			told := fmt.Sprint(guarded(t, what, call))
			if round == 0 {
				want[what] = told
			}
			if told != want[what] {
				t.Errorf("%s: %s, and then %s", what, want[what], told)
			}
		}
	}
}
