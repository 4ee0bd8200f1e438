package chain_test

import (
	"math"
	"slices"
	"testing"

	"strake/api"
	"strake/chain"
)

// TestTrim (P12.1): zeros at the end alone go, however many numbers there are.
func TestTrim(t *testing.T) {
	for _, c := range []struct{ list, want []int }{
		{nil, nil},
		{[]int{}, nil},
		{[]int{0}, nil},
		{[]int{0, 0, 0}, nil},
		{[]int{4}, []int{4}},
		{[]int{4, 0}, []int{4}},
		{[]int{0, 4}, []int{0, 4}},
		{[]int{0, 4, 0, 0, -1, 0, 0}, []int{0, 4, 0, 0, -1}},
		{[]int{1, 0, math.MinInt, 0}, []int{1, 0, math.MinInt}},
		{slices.Repeat([]int{2}, 40), slices.Repeat([]int{2}, 40)},
		{append(slices.Repeat([]int{2}, 40), 0, 0), slices.Repeat([]int{2}, 40)},
		{make([]int, 100000), nil},
	} {
		wantChain(t, "Trim", chain.Trim(c.list), api.OK, c.want...)
	}
	for k, c := range chains() {
		wantChain(t, named(k, c), chain.Trim(c), api.OK, c[:plainLength(c)]...)
	}
}

// TestAt (P12.1).
func TestAt(t *testing.T) {
	for _, c := range []struct {
		list    []int
		n, want int
	}{
		{nil, 0, 0}, {nil, 9, 0}, {[]int{}, -1, 0},
		{[]int{7}, 0, 7}, {[]int{7}, 1, 7}, {[]int{7}, math.MaxInt, 7},
		{[]int{7, 3}, 0, 7}, {[]int{7, 3}, 1, 10}, {[]int{7, 3}, 100, 307}, {[]int{7, 3}, math.MaxInt, 4 + math.MinInt},
		{[]int{0, 0, 1}, 1, 0}, {[]int{0, 0, 1}, 2, 1}, {[]int{0, 0, 1}, 5, 10}, {[]int{0, 0, 1}, 1 << 32, 1<<63 - 1<<31},
		{[]int{0, 0, 0, 1}, 1 << 22, -6148923487328141312},
		{[]int{1, 2, 4, 8, 16}, 4, 81},
		{[]int{5, 0, -3, 0}, 4, -13},
	} {
		wantAt(t, "by hand", c.list, c.n, c.want)
	}
}

// TestAtAllRounds holds values against numbers of any size: few rounds and as many as there can be.
func TestAtAllRounds(t *testing.T) {
	all := rounds()
	for k, c := range chains() {
		for i, n := range all {
			if (i+k)%3 == 0 || len(c) > 0 && c[len(c)-1] == 1 {
				wantAt(t, named(k, c), c, n, plainAt(c, n))
			}
		}
	}
}

// TestAtGoesRound: from one round to the next, each number becomes itself and the one behind it.
func TestAtGoesRound(t *testing.T) {
	for k, c := range chains() {
		now := slices.Clone(c)
		for n := range 100 {
			first := 0
			if len(now) > 0 {
				first = now[0]
			}
			wantAt(t, named(k, c), c, n, first)
			for i := 1; i < len(now); i++ {
				now[i-1] += now[i]
			}
		}
	}
}

// TestAtBelowNone (P12.1): rounds below 0 count as 0.
func TestAtBelowNone(t *testing.T) {
	for _, n := range []int{-1, -2, -3, -15, -16, -17, -64, math.MinInt32, -1 << 62, math.MinInt + 1, math.MinInt} {
		for k, c := range chains() {
			want := 0
			if len(c) > 0 {
				want = c[0]
			}
			wantAt(t, named(k, c), c, n, want)
		}
	}
}

// TestAtTooLong (P12.1): more than MaxChain numbers make 0, zeros at the end left aside.
func TestAtTooLong(t *testing.T) {
	for what, c := range longChains() {
		c[0] = 5
		for _, n := range []int{0, 1, 2, 15, 16, 17, 99, -1, math.MinInt, math.MaxInt} {
			wantAt(t, what, c, n, 0)
		}
	}
	most := slices.Repeat([]int{1}, api.MaxChain)
	wantAt(t, "as long as may be", most, 15, 1<<15)
	wantAt(t, "with zeros", append(most, make([]int, 5000)...), 15, 1<<15)
	wantAt(t, "its last number", most, 17, 1<<17-18)
}

// TestNext (P12.3).
func TestNext(t *testing.T) {
	for _, c := range []struct{ list, want []int }{
		{nil, nil}, {[]int{0, 0}, nil}, {[]int{4}, []int{4}}, {[]int{4, 0}, []int{4}},
		{[]int{4, -4}, []int{0, -4}},
		{[]int{0, 1, 2}, []int{1, 3, 2}},
		{[]int{math.MaxInt, 1, 0, 5, 0}, []int{math.MinInt, 1, 5, 5}},
		{[]int{3, math.MinInt, math.MinInt}, []int{3 + math.MinInt, 0, math.MinInt}},
	} {
		wantChain(t, "Next", chain.Next(c.list), api.OK, c.want...)
	}
	for k, c := range chains() {
		next := chain.Next(c)
		wantValues(t, named(k, c), next, api.OK, func(n int) int { return plainAt(c, n+1) })
		for _, n := range rounds() {
			if n < math.MaxInt {
				wantAt(t, named(k, c)+", its next one", next, n, chain.At(c, n+1))
			}
		}
	}
}

// TestNextTooLong (P12.3): of more than MaxChain numbers there is none.
func TestNextTooLong(t *testing.T) {
	for what, c := range longChains() {
		wantChain(t, what, chain.Next(c), api.OK)
	}
	most := slices.Repeat([]int{1}, api.MaxChain)
	want := append(slices.Repeat([]int{2}, api.MaxChain-1), 1)
	wantChain(t, "as long as may be", chain.Next(most), api.OK, want...)
	wantChain(t, "with zeros", chain.Next(append(most, make([]int, 5000)...)), api.OK, want...)
}
