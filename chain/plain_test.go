package chain_test

import (
	"math/big"
	"slices"
	"strconv"
	"testing"

	"strake/api"
	"strake/chain"
	"strake/sample"
)

// whole is 2^64.
var whole = new(big.Int).Lsh(big.NewInt(1), 64)

func signed(n int) *big.Int { return big.NewInt(int64(n)) }

// wrapped is the number of 64 bits with a sign that stands for one of any size.
func wrapped(n *big.Int) int { return int(new(big.Int).Mod(n, whole).Uint64()) }

// plainAt tells by numbers of any size a chain's value behind n rounds, n not being below 0, however long the chain is:
// choices are n (n - 1) .. (n - k + 1) / k!.
func plainAt(c []int, n int) int {
	sum, choices := new(big.Int), big.NewInt(1)
	for k, number := range c {
		sum.Add(sum, new(big.Int).Mul(signed(number), choices))
		choices.Mul(choices, new(big.Int).Sub(signed(n), signed(k)))
		choices.Quo(choices, signed(k+1))
	}
	return wrapped(sum)
}

// plainLength counts a chain's numbers without the zeros at its end.
func plainLength(c []int) int {
	length := 0
	for k, number := range c {
		if number != 0 {
			length = k + 1
		}
	}
	return length
}

// plainFit goes round by round: what a chain that is right for the values ahead still lacks is its next number.
func plainFit(values []int) []int {
	var c []int
	for n, v := range values {
		c = append(c, v-plainAt(c, n))
	}
	return c
}

// seededNumbers answers some edges, small numbers, and others of many bits.
func seededNumbers(seed int) func() int {
	next, edges := sample.Numbering(seed), sample.Edges()
	return func() int {
		switch next(4) {
		case 0:
			return edges[next(len(edges))]
		case 1:
			return next(21) - 10
		case 2:
			return (next(21) - 10) << (1 + next(63))
		}
		return next(1<<24)<<40 ^ next(1<<24)<<20 ^ next(1<<24)
	}
}

func seededList(length, seed int) []int {
	number := seededNumbers(seed)
	list := make([]int, length)
	for k := range list {
		list[k] = number()
	}
	return list
}

// units have one number that is not 0: the k-th, as 1, as a great power of 2, and as another one.
func units(k int) [][]int {
	var all [][]int
	for _, n := range []int{1, 1 << 62, 0x5555555555555555} {
		all = append(all, append(make([]int, k), n))
	}
	return all
}

// chains are of all lengths up to MaxChain, and some of them with zeros at the end.
func chains() [][]int {
	all := [][]int{nil, {}, {0}, make([]int, api.MaxChain), make([]int, 3*api.MaxChain), {0, 1, 2}, {5, 0, 0}, {-1, -1}}
	for k := range api.MaxChain {
		all = append(all, units(k)...)
		for seed := range 3 {
			list := seededList(k+1, 100*k+seed)
			all = append(all, list, append(slices.Clone(list), make([]int, 1+(7*k+seed)%20)...))
		}
	}
	return all
}

// longChains have too many numbers.
func longChains() map[string][]int {
	last := func(length, number int) []int { return append(make([]int, length-1), number) }
	return map[string][]int{
		"one more":             last(api.MaxChain+1, 1),
		"one more, great":      last(api.MaxChain+1, -1<<63),
		"one more, and zeros":  append(last(api.MaxChain+1, 1), make([]int, 9)...),
		"all of them":          slices.Repeat([]int{3}, api.MaxChain+1),
		"all of many":          slices.Repeat([]int{-1}, 5000),
		"one behind many":      last(100000, 7),
		"even at the very end": last(api.MaxChain+2, -1<<63),
	}
}

// rounds are small, at the ends of what numbers can be, and around powers of 2.
func rounds() []int {
	var all []int
	for n := range 40 {
		all = append(all, n)
	}
	for k := 6; k < 63; k += 3 {
		all = append(all, 1<<k-1, 1<<k, 1<<k+1, 1<<k+15, 1<<k+16)
	}
	for below := range 20 {
		all = append(all, 1<<63-1-below)
	}
	number := seededNumbers(5)
	for range 20 {
		if n := number(); n > 0 {
			all = append(all, n)
		}
	}
	return all
}

// wantChain holds an answer against the numbers that the chain should have.
func wantChain(t *testing.T, what string, got []int, e api.Errno, want ...int) {
	t.Helper()
	if e != api.OK || !slices.Equal(got, want) {
		t.Errorf("%s: %v, %d, want %v", what, got, e, want)
	}
}

func wantError(t *testing.T, what string, got []int, e api.Errno) {
	t.Helper()
	if e != api.ErrArg || len(got) != 0 {
		t.Errorf("%s: %v, %d, want error %d", what, got, e, api.ErrArg)
	}
}

// wantValues holds an answer against the values that the chain should have, and against its being trimmed.
func wantValues(t *testing.T, what string, got []int, e api.Errno, value func(n int) int) {
	t.Helper()
	if e != api.OK || plainLength(got) != len(got) || len(got) > api.MaxChain {
		t.Errorf("%s: %v, %d, want a chain, trimmed", what, got, e)
		return
	}
	for n := range 2*api.MaxChain + 5 {
		if plainAt(got, n) != value(n) {
			t.Errorf("%s: %v, behind %d rounds %d, want %d", what, got, n, plainAt(got, n), value(n))
			return
		}
	}
}

func named(k int, c []int) string { return "chain " + strconv.Itoa(k) + " of " + strconv.Itoa(len(c)) }

func wantAt(t *testing.T, what string, c []int, n, want int) {
	t.Helper()
	if got := chain.At(c, n); got != want {
		t.Errorf("%s: behind %d rounds %d, want %d", what, n, got, want)
	}
}

// eachPair shows see two of the chains, each with many others.
func eachPair(see func(what string, a, b []int)) {
	all := chains()
	for i, a := range all {
		for k, b := range all {
			if i < 8 || k < 8 || (i+k)%5 == 0 {
				see(named(i, a)+" and "+named(k, b), a, b)
			}
		}
	}
}
