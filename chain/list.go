package chain

import "strake/api"

// trimmed is a list without the zeros at its end, in the list's own memory.
func trimmed(c []int) []int {
	for len(c) > 0 && c[len(c)-1] == 0 {
		c = c[:len(c)-1]
	}
	return c
}

func tooLong(c []int) bool { return len(c) > api.MaxChain }

// own appends to nothing, as slices.Clone would hand an empty list back as it is.
func own(c []int) []int { return append([]int(nil), c...) }

// answer is what a call tells of the chain that came.
func answer(c []int) ([]int, api.Errno) {
	c = trimmed(c)
	if tooLong(c) {
		return nil, api.ErrArg
	}
	return own(c), api.OK
}

// fit makes of a chain's first values the chain, in place: number k is how the k-th differences of the values begin.
func fit(values []int) {
	for k := range len(values) {
		for n := len(values) - 1; n > k; n-- {
			values[n] -= values[n-1]
		}
	}
}
