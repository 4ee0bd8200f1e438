package odd_test

import (
	"math/big"
	"testing"

	"strake/odd"
)

func TestParts(t *testing.T) {
	for _, c := range []struct {
		n, odd uint64
		twos   int
	}{
		{0, 0, 64}, {1, 1, 0}, {2, 1, 1}, {3, 3, 0}, {12, 3, 2}, {96, 3, 5},
		{1 << 63, 1, 63}, {3 << 62, 3, 62}, {1<<64 - 1, 1<<64 - 1, 0}, {1<<64 - 2, 1<<63 - 1, 1},
	} {
		if odd, twos := odd.Parts(c.n); odd != c.odd || twos != c.twos {
			t.Errorf("parts of %d: %d, %d, want %d, %d", c.n, odd, twos, c.odd, c.twos)
		}
	}
}

// TestInverse holds inverses against those of numbers of any size.
func TestInverse(t *testing.T) {
	whole := new(big.Int).Lsh(big.NewInt(1), 64)
	for k := range 64 {
		for _, n := range []uint64{1<<k + 1, 1<<k - 1, 3<<k + 1, 0x9e3779b97f4a7c15<<k | 1, 1<<63>>k | 1} {
			want := new(big.Int).ModInverse(new(big.Int).SetUint64(n|1), whole)
			if got := odd.Inverse(n | 1); got != want.Uint64() {
				t.Errorf("inverse of %d: %d, want %d", n|1, got, want)
			}
		}
	}
}
