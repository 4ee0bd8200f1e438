package chain

import "strake/odd"

// choices is C(n, k) modulo 2^64, as an odd number and how many twos go with it:
// modulo 2^64 just what is odd can be divided by.
type choices struct {
	odd  uint64
	twos int
}

// value is a chain's value behind n rounds, n not being below 0.
func value(c []int, n int) int {
	sum, ways := 0, choices{odd: 1}
	for k, number := range c {
		sum += number * ways.number()
		if k == n {
			break // there are no more ways than 0
		}
		ways = ways.times(n - k).over(k + 1)
	}
	return sum
}

func (c choices) number() int { return int(c.odd << c.twos) }

// times and over are for numbers above 0.
func (c choices) times(n int) choices {
	other, twos := odd.Parts(uint64(n))
	return choices{c.odd * other, c.twos + twos}
}

func (c choices) over(n int) choices {
	other, twos := odd.Parts(uint64(n))
	return choices{c.odd * odd.Inverse(other), c.twos - twos}
}
