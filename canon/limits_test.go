package canon_test

import (
	"fmt"
	"testing"

	"strake/api"
	"strake/canon"
	"strake/ir"
	"strake/sample"
)

// again is a line of so many blocks, two of which go back to block 1.
func again(blocks int) api.Func {
	f := sample.Line(blocks)
	f.Params = []int{api.Bool, api.Int, api.Int}
	f.Blocks[1].Term, f.Blocks[2].Term = sample.Branch(0, 1, 2), sample.Branch(0, 1, 3)
	return f
}

// alone is a line of so many blocks, each of which goes back to itself, but for the first and the last.
func alone(blocks int) api.Func {
	f := sample.Line(blocks)
	f.Params = []int{api.Bool}
	for b := 1; b < blocks-1; b++ {
		f.Blocks[b].Term = sample.Branch(0, b, b+1)
	}
	return f
}

// padded is f, which is changed, with so many instructions more.
func padded(f api.Func, n int) api.Func {
	for range n {
		f.Blocks[0].Code = append(f.Blocks[0].Code, api.Instr{Op: api.OpOut, Id: -1, Args: []int{1}})
	}
	return f
}

// withPhi is f, which is again's and changed, with a phi that has these from the two blocks that go back.
func withPhi(f api.Func, id, one, other int) api.Func {
	f.Blocks[1].Phis = append(f.Blocks[1].Phis, api.Phi{Id: id, Type: api.Int, From: []int{2, 0, 1}, Vals: []int{other, 1, one}})
	return f
}

// wantFits asks whether what Simplify makes is within the limits, and how great it is then.
func wantFits(t *testing.T, what string, f api.Func, fits bool, blocks, size int) {
	t.Helper()
	if !fits {
		wantSimplify(t, what, f, api.Func{}, api.ErrBudget)
		return
	}
	g := wantSimplified(t, what, f, nil)
	if n, e := ir.Size(g); e != api.OK || n != size || len(g.Blocks) != blocks {
		t.Errorf("%s: %d blocks, size %d, error %d, want %d, %d", what, len(g.Blocks), n, e, blocks, size)
	}
}

func TestLimitOfBlocks(t *testing.T) {
	const most = api.MaxBlocks
	wantFits(t, "just full", again(most-1), true, most, most)
	wantFits(t, "one more", again(most), false, 0, 0)
	wantFits(t, "full, and plain", sample.Nested(255), true, most, most)
	two := again(most - 1)
	two.Blocks[0].Term = sample.Branch(0, 1, 1)
	wantFits(t, "one more than fits", two, false, 0, 0)
	two = again(most - 2)
	two.Blocks[0].Term = sample.Branch(0, 1, 1)
	wantFits(t, "two", two, true, most, most)
	wantFits(t, "both ways", sample.BothWays(), false, 0, 0)
	wantFits(t, "a ladder, in which no loop has one head", sample.Ladder(255), true, most, most)
	wantFits(t, "each goes to itself", alone(most), false, 0, 0)
	// The head of the first is come to by a jump alone; ahead of each other one goes on the one ahead.
	wantFits(t, "half of them go to themselves", alone(257), true, 257+254, 257+254)
}

func TestLimitOfSize(t *testing.T) {
	const room = api.MaxCode - 5
	wantFits(t, "just full", padded(again(5), room-1), true, 6, api.MaxCode)
	wantFits(t, "one more", padded(again(5), room), false, 0, 0)
	wantFits(t, "just full, with a phi", withPhi(padded(again(5), room-3), 7, 1, 2), true, 6, api.MaxCode)
	wantFits(t, "one more, with a phi", withPhi(padded(again(5), room-2), 7, 1, 2), false, 0, 0)
	wantFits(t, "just full, with a phi that gets one value", withPhi(padded(again(5), room-2), 7, 2, 2), true, 6, api.MaxCode)
	many := again(5)
	for id := range room / 2 {
		withPhi(many, 3+id, 1, 2)
	}
	wantFits(t, "many phis", many, true, 6, 6+room/2*2)
	wantFits(t, "one more phi", withPhi(many, 3+room/2, 1, 2), false, 0, 0)
	plain := padded(sample.Nested(3), 0)
	plain.Params = []int{api.Bool, api.Int}
	wantFits(t, "full, and plain", padded(plain, api.MaxCode-8), true, 8, api.MaxCode)
}

// TestLimitOfIds: new values come behind the greatest one.
func TestLimitOfIds(t *testing.T) {
	wantFits(t, "room for a phi", withPhi(again(5), api.MaxId-2, 1, 2), true, 6, 8)
	wantFits(t, "no room", withPhi(again(5), api.MaxId-1, 1, 2), false, 0, 0)
	wantFits(t, "nothing new", withPhi(again(5), api.MaxId-1, 2, 2), true, 6, 7)
	two := withPhi(withPhi(again(5), api.MaxId-2, 1, 2), 7, 2, 1)
	wantFits(t, "room for one of two phis", two, false, 0, 0)
	two.Blocks[1].Phis[0].Id = api.MaxId - 3
	wantFits(t, "room for both", two, true, 6, 10)
}

// TestGreat has functions of hundreds of blocks, and one of which far too much comes.
func TestGreat(t *testing.T) {
	for seed := range 6 {
		f := sample.Reached(t, 300, seed+1)
		if g, e := canon.Simplify(f); e == api.OK {
			isSimplified(t, fmt.Sprint("seed ", seed), f, g)
		} else {
			wantSimplify(t, fmt.Sprint("seed ", seed), f, api.Func{}, api.ErrBudget)
		}
	}
	wantSimplified(t, "a ladder", sample.Walking(sample.Ladder(60)), sample.Walks())
	wantFits(t, "far too much", crowd(200, 3000), false, 0, 0)
	wantFits(t, "some of it", crowd(60, 900), true, 2+4*60, 2+4*60+900)
}

// crowd has so many loops that all go on at one block, which has so many phis.
func crowd(loops, phis int) api.Func {
	f := api.Func{Params: []int{api.Bool, api.Int}}
	last := 2*loops + 1
	var from, vals []int
	for b := 0; b < 2*loops; b += 2 {
		// One that goes to the loop of the next one, or on.
		f.Blocks = append(f.Blocks, api.Block{Term: sample.Branch(0, b+1, b+2)}, api.Block{Term: sample.Branch(0, b+1, last)})
		from, vals = append(from, b+1), append(vals, 1)
	}
	f.Blocks = append(f.Blocks, api.Block{Term: sample.Return(0)}, api.Block{Term: sample.Return(0)})
	for id := range phis {
		f.Blocks[last].Phis = append(f.Blocks[last].Phis, api.Phi{Id: 2 + id, Type: api.Int, From: from, Vals: vals})
	}
	return f
}
