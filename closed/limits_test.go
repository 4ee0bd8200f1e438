package closed_test

import (
	"fmt"
	"testing"

	"strake/api"
	"strake/closed"
	"strake/sample"
)

func made(op, id int, args ...int) api.Instr { return api.Instr{Op: op, Id: id, Args: args} }

func told(id int) api.Instr { return made(api.OpOut, -1, id) }

// nested is so many loops one in another, in the innermost of which a value is made that is told behind all.
func nested(loops, id int) api.Func {
	f := sample.Nested(loops)
	f.Params = []int{api.Bool, api.Int, api.Int}
	last := len(f.Blocks) - 1
	f.Blocks[loops].Code = []api.Instr{made(api.OpAdd, id, 1, 2)}
	f.Blocks[last].Code = []api.Instr{told(id)}
	return f
}

// padded is f, which is changed, with so many instructions more.
func padded(f api.Func, n int) api.Func {
	for range n {
		f.Blocks[0].Code = append(f.Blocks[0].Code, told(1))
	}
	return f
}

// wide is a loop with so many ways out, each to a block of its own, and so many values that are told where those meet.
func wide(exits, values int) api.Func {
	last := 2*exits + 1
	f := api.Func{Params: []int{api.Bool, api.Int}, Blocks: []api.Block{{Term: sample.Jump(1)}}}
	for b := 1; b <= exits; b++ {
		f.Blocks = append(f.Blocks, api.Block{Term: sample.Branch(0, exits+b, b%exits+1)})
	}
	for range exits {
		f.Blocks = append(f.Blocks, api.Block{Term: sample.Jump(last)})
	}
	f.Blocks = append(f.Blocks, api.Block{Term: sample.Return(0)})
	for id := range values {
		f.Blocks[1].Code = append(f.Blocks[1].Code, made(api.OpAdd, 2+id, 1, 1))
		f.Blocks[last].Code = append(f.Blocks[last].Code, told(2+id))
	}
	return f
}

// wantFits asks whether what Close makes is within the limits, and how many phis come then.
func wantFits(t *testing.T, what string, f api.Func, fits bool, phis int) {
	t.Helper()
	if !fits {
		wantClose(t, what, f, api.Func{}, api.ErrBudget)
		return
	}
	g := wantClosed(t, what, f, nil)
	if phisOf(g)-phisOf(f) != phis || addedTo(t, f, g) != phis {
		t.Errorf("%s: there are %d phis more, and the size is greater by %d, want %d", what, phisOf(g)-phisOf(f), addedTo(t, f, g), phis)
	}
}

func TestLimitOfSize(t *testing.T) {
	const room = api.MaxCode - 10
	wantFits(t, "just full", padded(nested(3, 9), room-3), true, 3)
	wantFits(t, "one more", padded(nested(3, 9), room-2), false, 0)
	wantFits(t, "two more", padded(nested(3, 9), room-1), false, 0)
	wantFits(t, "full, and one way out", padded(nested(1, 9), api.MaxCode-6), false, 0)
	wantFits(t, "full but for one, and one way out", padded(nested(1, 9), api.MaxCode-7), true, 1)
	shut := nested(3, 9)
	shut.Blocks[7].Code[0].Args[0] = 1
	wantFits(t, "full, and no value leaves a loop", padded(shut, room), true, 0)
	wantFits(t, "some values", wide(3, 10), true, 40)
	wantFits(t, "some values, just full", padded(wide(3, 10), api.MaxCode-28-40), true, 40)
	wantFits(t, "some values, one more", padded(wide(3, 10), api.MaxCode-28-39), false, 0)
}

// TestLimitOfIds: new values come behind the greatest one.
func TestLimitOfIds(t *testing.T) {
	wantFits(t, "room for three", nested(3, api.MaxId-4), true, 3)
	wantFits(t, "room for two", nested(3, api.MaxId-3), false, 0)
	wantFits(t, "no room", nested(3, api.MaxId-1), false, 0)
	wantFits(t, "no room, and one way out", nested(1, api.MaxId-1), false, 0)
	wantFits(t, "room for one, and one way out", nested(1, api.MaxId-2), true, 1)
	other := nested(3, 9)
	other.Blocks[0].Code = []api.Instr{made(api.OpAdd, api.MaxId-4, 1, 1)}
	wantFits(t, "room for three, behind another", other, true, 3)
	other.Blocks[0].Code[0].Id++
	wantFits(t, "room for two, behind another", other, false, 0)
	other.Blocks[7].Code[0].Args[0] = api.MaxId - 3
	wantFits(t, "no value leaves", other, true, 0)
}

func TestLimitOfBlocks(t *testing.T) {
	wantFits(t, "a nest", nested(255, 9), true, 255)
	wantFits(t, "no loop", sample.Line(api.MaxBlocks), true, 0)
	wantFits(t, "both ways", sample.BothWays(), true, 0)
	wantFits(t, "a loop with many ways out", wide(255, 13), true, 13*256)
	wantFits(t, "a loop with many ways out, and a value more", wide(255, 14), false, 0)
}

// TestGreat has functions to which much comes, or would come.
func TestGreat(t *testing.T) {
	wantFits(t, "many values", wide(1, 1300), true, 1300)
	wantFits(t, "some values and ways out", wide(60, 60), true, 60*61)
	wantFits(t, "far too much", wide(200, 1800), false, 0)
	wantFits(t, "far too much, behind the first value", wide(255, 1700), false, 0)
	wantFits(t, "a loop ahead of a line of ways back and forth", backAndForth(7), true, 7*508)
	wantFits(t, "a loop ahead of such a line, and a value more", backAndForth(8), false, 0)
	for seed := range 6 {
		f := sample.Recalling(sample.Reached(t, 150, seed+1))
		if g, e := closed.Close(f); e == api.OK {
			isClosed(t, fmt.Sprint("seed ", seed), f, g)
		} else {
			wantClose(t, fmt.Sprint("seed ", seed), f, api.Func{}, api.ErrBudget)
		}
	}
}

// backAndForth has a loop that is left for both ends of a line of 508 blocks, each of which goes to both beside it, and
// so many values that are made in the loop and told at both ends.
func backAndForth(values int) api.Func {
	const first, last = 4, api.MaxBlocks - 1
	f := api.Func{Params: []int{api.Bool, api.Int}, Blocks: []api.Block{
		{Term: sample.Jump(1)}, {Term: sample.Branch(0, 2, first)}, {Term: sample.Branch(0, 3, last)}, {Term: sample.Jump(1)},
	}}
	for b := first; b <= last; b++ {
		f.Blocks = append(f.Blocks, api.Block{Term: sample.Branch(0, max(b-1, first), min(b+1, last))})
	}
	for id := range values {
		f.Blocks[1].Code = append(f.Blocks[1].Code, made(api.OpAdd, 2+id, 1, 1))
		f.Blocks[first].Code = append(f.Blocks[first].Code, told(2+id))
		f.Blocks[last].Code = append(f.Blocks[last].Code, told(2+id))
	}
	return f
}
