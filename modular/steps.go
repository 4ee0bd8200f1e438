package modular

import "math/bits"

// round asks for the least n with step n, modulo top + 1, from lo to hi: step, lo and hi are not above top, and lo is not 0.
// The modulus itself may be 2^64, for which numbers have no room.
type round struct{ top, step, lo, hi uint64 }

// steps answers a round. Where no multiple of the step lies in the span itself, n steps go over the modulus's end some times,
// and the least number of times is a round of its own, modulo the step. Each round's modulus is at most half the one before,
// so that there are no more rounds than the first modulus has bits.
func steps(r round, width int) (n uint64, found bool) {
	var asked []round
	for range width {
		if r.step == 0 {
			return 0, false
		}
		r = r.shorter()
		if n = r.before() + 1; n <= r.hi/r.step {
			return behind(asked, n), true
		}
		asked = append(asked, r)
		r = r.next()
	}
	return 0, false
}

// behind answers the first of the rounds that were asked, n being the answer to the one that the last of them has led to.
func behind(asked []round, n uint64) uint64 {
	for k := range len(asked) {
		n = asked[len(asked)-1-k].reach(n)
	}
	return n
}

// shorter is the same round with a step of at most half the modulus: a longer one is a shorter one the other way.
func (r round) shorter() round {
	if r.step <= r.back(r.step) {
		return r
	}
	return round{r.top, r.back(r.step), r.back(r.hi), r.back(r.lo)}
}

// back is how far a number, that is not 0, lies from the modulus.
func (r round) back(number uint64) uint64 { return r.top - number + 1 }

// before is how many whole steps go ahead of lo.
func (r round) before() uint64 { return (r.lo - 1) / r.step }

// next asks for the least number of times that steps go over the end: times the modulus, and then lo to hi, has to have a multiple of the step.
// There is none from lo to hi, so that modulo the step lo is still not above hi, and not 0.
func (r round) next() round {
	return round{r.step - 1, r.step - 1 - r.top%r.step, r.lo % r.step, r.hi % r.step}
}

// reach is the least number of steps that come to lo or further, having gone over the end so many times.
func (r round) reach(times uint64) uint64 {
	// Ahead of lo is top times + times + lo - 1.
	high, low := bits.Mul64(r.top, times)
	for _, more := range []uint64{times, r.lo - 1} {
		var carry uint64
		low, carry = bits.Add64(low, more, 0)
		high += carry
	}
	// Times is below step, so that the answer is not above top.
	whole, _ := bits.Div64(high, low, r.step)
	return whole + 1
}
