package chain_test

import (
	"math"
	"slices"
	"strconv"
	"testing"

	"strake/api"
	"strake/chain"
)

// most is as long as may be.
func most(number int) []int { return slices.Repeat([]int{number}, api.MaxChain) }

// TestAdd (P12.2).
func TestAdd(t *testing.T) {
	for _, c := range []struct {
		list [][]int
		want []int
	}{
		{nil, nil}, {[][]int{}, nil}, {[][]int{nil}, nil}, {[][]int{{}, {0}, nil}, nil},
		{[][]int{{4, 0, 7, 0}}, []int{4, 0, 7}},
		{[][]int{{1, 2}, {3, 4, 5}}, []int{4, 6, 5}},
		{[][]int{{3, 4, 5}, {1, 2}}, []int{4, 6, 5}},
		{[][]int{{3, 4, 5}, {1, -4, -5}}, []int{4}},
		{[][]int{{3, 4}, {-3, -4}}, nil},
		{[][]int{{math.MaxInt, 1}, {1, math.MaxInt}, {0, math.MinInt}}, []int{math.MinInt}},
		{[][]int{most(1), most(2), {}, most(-1)}, most(2)},
		{[][]int{most(1), append(most(-1), 0, 0)}, nil},
	} {
		got, e := chain.Add(c.list...)
		wantChain(t, "Add", got, e, c.want...)
	}
}

// TestAddMany adds all the chains, and one many times.
func TestAddMany(t *testing.T) {
	all := chains()
	got, e := chain.Add(all...)
	wantValues(t, "all of them", got, e, func(n int) int {
		sum := 0
		for _, c := range all {
			sum += plainAt(c, n)
		}
		return sum
	})
	got, e = chain.Add(slices.Repeat([][]int{{1, 0, -1}}, 70000)...)
	wantChain(t, "one many times", got, e, 70000, 0, -70000)
	eachPair(func(what string, a, b []int) {
		got, e := chain.Add(a, b)
		wantValues(t, what, got, e, func(n int) int { return plainAt(a, n) + plainAt(b, n) })
	})
}

// TestMul (P12.2).
func TestMul(t *testing.T) {
	for _, c := range []struct{ a, b, want []int }{
		{nil, nil, nil}, {[]int{0}, []int{5, 1}, nil}, {[]int{5, 1}, nil, nil},
		{[]int{3}, []int{5, 1, 0}, []int{15, 3}},
		{[]int{0, 1}, []int{0, 1}, []int{0, 1, 2}},
		{[]int{0, 1, 2}, []int{1, 1}, []int{0, 2, 8, 6}},
		{[]int{0, 0, 1}, []int{0, 0, 1}, []int{0, 0, 1, 6, 6}},
		{[]int{1 << 32}, []int{1 << 32, 1}, []int{0, 1 << 32}},
		{[]int{math.MinInt}, []int{math.MinInt}, nil},
		{[]int{math.MinInt}, []int{2, 1, 4}, []int{0, math.MinInt}},
	} {
		got, e := chain.Mul(c.a, c.b)
		wantChain(t, "Mul", got, e, c.want...)
	}
}

// TestMulAll holds products against the plain words: their chains' lengths, and their values.
func TestMulAll(t *testing.T) {
	tooLong, right := 0, 0
	eachPair(func(what string, a, b []int) {
		product := func(n int) int { return plainAt(a, n) * plainAt(b, n) }
		var values []int
		for n := range 2*api.MaxChain + 2 {
			values = append(values, product(n))
		}
		got, e := chain.Mul(a, b)
		if plainLength(plainFit(values)) > api.MaxChain {
			wantError(t, what, got, e)
			tooLong++
			return
		}
		wantValues(t, what, got, e, product)
		right++
	})
	if tooLong < 100 || right < 100 {
		t.Errorf("just %d products were too long, and %d were not", tooLong, right)
	}
}

// TestMulAtLimit (P12.2): what counts is how many numbers come, trimmed, modulo 2^64.
func TestMulAtLimit(t *testing.T) {
	last := func(k, number int) []int { return append(make([]int, k), number) }
	for _, c := range []struct {
		what   string
		a, b   []int
		length int
	}{
		{"just as many as may be", last(8, 1), last(7, 1), 16},
		{"one more", last(8, 1), last(8, 1), -1},
		{"of unequal ones", last(15, 1), last(1, 1), -1},
		{"a number times the greatest", last(15, 1), []int{3}, 16},
		{"nothing times the greatest", last(15, 1), nil, 0},
		{"twos that fill up", last(15, 1<<32), last(15, 1<<32), 0},
		{"twos that leave the numbers ahead", last(8, math.MinInt), last(8, 1), 9},
		{"twos that leave the last one that may be", last(15, math.MinInt), last(15, 1), 16},
		{"twos that fill up one too many", last(15, 1<<60), last(1, 1), 16},
		{"twos that do not fill it up", last(15, 1<<59), last(1, 1), -1},
	} {
		got, e := chain.Mul(c.a, c.b)
		if c.length < 0 {
			wantError(t, c.what, got, e)
			continue
		}
		wantValues(t, c.what, got, e, func(n int) int { return plainAt(c.a, n) * plainAt(c.b, n) })
		if len(got) != c.length {
			t.Errorf("%s: %d numbers, want %d: %v", c.what, len(got), c.length, got)
		}
	}
}

// TestSums (P12.2).
func TestSums(t *testing.T) {
	for _, c := range []struct {
		start   int
		c, want []int
	}{
		{0, nil, nil}, {0, []int{0, 0}, nil}, {5, nil, []int{5}}, {math.MinInt, []int{0}, []int{math.MinInt}},
		{0, []int{1}, []int{0, 1}}, {5, []int{1, 2, 0}, []int{5, 1, 2}},
		{7, make([]int, 5000), []int{7}},
		{7, append(slices.Repeat([]int{1}, 15), 0, 0, 0), append([]int{7}, slices.Repeat([]int{1}, 15)...)},
		{0, append(make([]int, 14), 3), append(make([]int, 15), 3)},
	} {
		got, e := chain.Sums(c.start, c.c)
		wantChain(t, "Sums", got, e, c.want...)
	}
	for _, start := range []int{0, 1, -9, math.MaxInt, math.MinInt} {
		for k, c := range chains() {
			got, e := chain.Sums(start, c)
			if plainLength(c) == api.MaxChain {
				wantError(t, named(k, c), got, e)
				continue
			}
			wantValues(t, named(k, c), got, e, func(n int) int {
				sum := start
				for m := range n {
					sum += plainAt(c, m)
				}
				return sum
			})
		}
	}
}

// TestFit (P12.2).
func TestFit(t *testing.T) {
	for _, c := range []struct{ values, want []int }{
		{nil, nil}, {[]int{}, nil}, {[]int{0, 0, 0}, nil}, {[]int{4}, []int{4}},
		{[]int{4, 4, 4}, []int{4}}, {[]int{4, 7, 10}, []int{4, 3}}, {[]int{0, 0, 0, 1}, []int{0, 0, 0, 1}},
		{[]int{1, 4, 9, 16, 25}, []int{1, 3, 2}},
		{[]int{5, 0}, []int{5, -5}},
		{[]int{math.MaxInt, math.MinInt, math.MinInt + 1}, []int{math.MaxInt, 1}},
		{make([]int, api.MaxChain), nil},
		{most(9), []int{9}},
	} {
		got, e := chain.Fit(c.values)
		wantChain(t, "Fit", got, e, c.want...)
	}
	for length := range api.MaxChain + 1 {
		for seed := range 20 {
			values := seededList(length, 31*length+seed)
			got, e := chain.Fit(values)
			want := plainFit(values)
			wantChain(t, "Fit of "+strconv.Itoa(length), got, e, want[:plainLength(want)]...)
			for n, v := range values {
				wantAt(t, "Fit of "+strconv.Itoa(length), got, n, v)
			}
		}
	}
}

// TestFitBack: a chain's first values make it again.
func TestFitBack(t *testing.T) {
	for k, c := range chains() {
		var values []int
		for n := range api.MaxChain {
			values = append(values, chain.At(c, n))
		}
		got, e := chain.Fit(values)
		wantChain(t, named(k, c), got, e, c[:plainLength(c)]...)
	}
}

// TestTooLong (P12.2): a chain that is handed in with too many numbers is an error, whatever would come.
func TestTooLong(t *testing.T) {
	for what, c := range longChains() {
		var minus []int
		for _, number := range c {
			minus = append(minus, -number)
		}
		for _, list := range [][][]int{{c}, {nil, c}, {c, nil}, {c, minus}, {{1}, {2}, c, {3}}, {c, {math.MinInt}}} {
			got, e := chain.Add(list...)
			wantError(t, what+", added", got, e)
			if len(list) == 2 {
				got, e = chain.Mul(list[0], list[1])
				wantError(t, what+", multiplied", got, e)
			}
		}
		for _, start := range []int{0, 1, math.MinInt} {
			got, e := chain.Sums(start, c)
			wantError(t, what+", summed up", got, e)
		}
		got, e := chain.Fit(c)
		wantError(t, what+", as values", got, e)
	}
	// Fit's values are counted with their zeros.
	for _, values := range [][]int{make([]int, api.MaxChain+1), append(most(1), 0), append([]int{1}, make([]int, api.MaxChain)...), make([]int, 5000)} {
		got, e := chain.Fit(values)
		wantError(t, "zeros as values", got, e)
	}
	// Zeros at a chain's end are not.
	zeros := append(most(1), make([]int, 100)...)
	got, e := chain.Add(zeros, zeros)
	wantChain(t, "zeros, added", got, e, most(2)...)
	got, e = chain.Mul(zeros, append([]int{2}, make([]int, 100)...))
	wantChain(t, "zeros, multiplied", got, e, most(2)...)
	got, e = chain.Sums(2, append([]int{1}, make([]int, 100)...))
	wantChain(t, "zeros, summed up", got, e, 2, 1)
}
