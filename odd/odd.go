// Package odd takes numbers of 64 bits apart, for layers that divide modulo powers of 2: just what is odd can be divided by there.
package odd

import "math/bits"

// Parts are the odd number and the number of twos that make n: of 0, 0 and all the 64 twos that numbers have room for.
func Parts(n uint64) (odd uint64, twos int) {
	twos = bits.TrailingZeros64(n)
	return n >> twos, twos
}

// Inverse is what an odd number has to be multiplied by to make 1.
func Inverse(odd uint64) uint64 {
	// The number itself does so modulo 8, and each round doubles the bits.
	x := odd
	for range 5 {
		x *= 2 - odd*x
	}
	return x
}
