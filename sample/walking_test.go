package sample_test

import (
	"fmt"
	"slices"
	"testing"

	"strake/api"
	"strake/interp"
	"strake/loops"
	"strake/sample"
	"strake/strict"
)

// walked tells how often a walk over a graph comes to its blocks, and how it ends.
func walked(ways api.Func, bits int) (visits []int, end int) {
	visits = make([]int, len(ways.Blocks))
	for b, left := 0, uint64(bits); ; left >>= 1 {
		visits[b]++
		to := ways.Blocks[b].Term.To
		switch {
		case left == 0:
			return visits, api.Trapped
		case len(to) == 0:
			return visits, api.Returned
		case len(to) == 2 && left%2 == 0:
			b = to[1]
		default:
			b = to[0]
		}
	}
}

// wantWalking asks whether runs of a walking function go where the bits say.
func wantWalking(t *testing.T, what string, ways api.Func) {
	t.Helper()
	f := sample.Walking(ways)
	if b, e := strict.Check(f); e != api.OK {
		t.Errorf("%s: error %d at %d", what, e, b)
	}
	for i, in := range sample.Walks() {
		visits, end := walked(ways, in.Args[0])
		if r := interp.Run(f, in, 2000); r.End != end || !slices.Equal(r.Visits, visits) {
			t.Errorf("%s, walk %d: it ends with %d, and comes to %v, want %d, %v", what, i, r.End, r.Visits, end, visits)
		}
	}
}

func TestWalking(t *testing.T) {
	wantWalking(t, "deep", sample.Deep(t))
	wantWalking(t, "a nest", sample.Nested(30))
	n := 0
	sample.EachSmall(func(what string, f api.Func) {
		n++
		if n%10 == 0 {
			wantWalking(t, what, f)
		}
	})
	for seed := range 60 {
		wantWalking(t, fmt.Sprint("seed ", seed), sample.Reached(t, 4+seed, seed))
	}
}

// TestWalkingTells: the sum of a block is that of the block ahead, and that one's mark if its bit was 1, else the sum of
// the block that dominates both.
func TestWalkingTells(t *testing.T) {
	f := sample.Walking(sample.Flagged(t, "b0:", "jump b1", "b1:", "branch v0 b1 b2", "b2:", "return v0"))
	// The sums are 100 + 7, 107 + 107, 214 + 101, 315 + 315.
	r := interp.Run(f, api.Input{Args: []int{0b1010, 7}}, 1000)
	if want := []int{107, 107, 214, 107, 315, 315, 630}; r.End != api.Returned || r.Value != 630 || !slices.Equal(r.Out, want) {
		t.Errorf("it tells %v, and ends with %d, value %d", r.Out, r.End, r.Value)
	}
}

// TestRecalling: what is told again are the sums of all that dominate a block.
func TestRecalling(t *testing.T) {
	f := sample.Recalling(sample.Flagged(t, "b0:", "jump b1", "b1:", "branch v0 b1 b2", "b2:", "return v0"))
	r := interp.Run(f, api.Input{Args: []int{0b1010, 7}}, 1000)
	if want := []int{107, 107, 214, 107, 107, 315, 107, 315, 630, 315, 107}; r.End != api.Returned || r.Value != 630 || !slices.Equal(r.Out, want) {
		t.Errorf("it tells %v, and ends with %d, value %d", r.Out, r.End, r.Value)
	}
	for seed := range 60 {
		ways := sample.Reached(t, 4+seed, seed)
		f, g := sample.Walking(ways), sample.Recalling(ways)
		if b, e := strict.Check(g); e != api.OK {
			t.Errorf("seed %d: error %d at %d", seed, e, b)
		}
		for i, in := range sample.Walks() {
			if was, is := interp.Run(f, in, 2000), interp.Run(g, in, 20000); was.Value != is.Value || !slices.Equal(was.Visits, is.Visits) {
				t.Errorf("seed %d, walk %d: it goes elsewhere", seed, i)
			}
		}
	}
}

func TestEachSmall(t *testing.T) {
	n, looped := 0, 0
	sample.EachSmall(func(what string, f api.Func) {
		n++
		if b, e := strict.Check(f); e != api.OK {
			t.Fatalf("%s: error %d at %d", what, e, b)
		}
		if all, _ := loops.Forest(f); len(all) > 0 {
			looped++
		}
	})
	if n < 5000 || looped < 2000 {
		t.Errorf("just %d graphs, %d of them with loops", n, looped)
	}
}

func TestReached(t *testing.T) {
	for seed := range 40 {
		f := sample.Reached(t, 2+seed, seed)
		if b, e := strict.Check(f); e != api.OK || len(f.Blocks) > 2+seed {
			t.Errorf("seed %d: %d blocks, error %d at %d", seed, len(f.Blocks), e, b)
		}
	}
}

func TestDeep(t *testing.T) {
	if b, e := strict.Check(sample.Deep(t)); e != api.OK {
		t.Errorf("error %d at %d", e, b)
	}
}
