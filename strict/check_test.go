package strict_test

import (
	"fmt"
	"testing"

	"strake/api"
	"strake/graph"
	"strake/sample"
)

func TestStrict(t *testing.T) {
	for what, f := range map[string]api.Func{
		"bare":   sample.Bare(),
		"whole":  sample.Whole(),
		"a line": sample.Line(api.MaxBlocks),
		"phis from all that go there, in any order": sample.Flagged(t,
			"b0:", "branch v0 b2 b1", "b1:", "branch v0 b3 b2", "b2:", "v3 = phi bool b1 v0 b0 v0", "jump b3",
			"b3:", "v1 = phi bool b2 v3 b1 v0", "v2 = phi bool b1 v0 b2 v0", "return v1"),
		"a phi from a block that goes there twice": sample.Flagged(t,
			"b0:", "branch v0 b1 b1", "b1:", "v1 = phi bool b0 v0", "return v1"),
		"phis of their own block's values": sample.Flagged(t, "b0:", "v9 = const 0", "jump b1",
			"b1:", "v1 = phi int b0 v9 b1 v3", "v2 = phi int b0 v9 b1 v2", "v4 = phi int b0 v9 b1 v1", "v3 = const 1", "branch v0 b1 b2",
			"b2:", "return v4"),
		"an end by a value of its block": sample.Flagged(t, "b0:", "v1 = const 1", "return v1"),
		"an end by a phi of its block": sample.Flagged(t,
			"b0:", "jump b1", "b1:", "v1 = phi bool b0 v0", "branch v1 b2 b2", "b2:", "return v1"),
		"values from a block with a greater number": sample.Flagged(t,
			"b0:", "jump b2", "b1:", "v1 = not v2", "return v2", "b2:", "v2 = flag 1", "jump b1"),
		"a parameter far behind": sample.Flagged(t,
			"b0:", "jump b1", "b1:", "v1 = phi bool b0 v0 b1 v0", "v2 = not v0", "branch v0 b1 b2", "b2:", "return v0"),
	} {
		wantCheck(t, what, f, 0, api.OK)
	}
}

func TestDead(t *testing.T) {
	wantCheck(t, "rich", sample.Rich(), 5, api.ErrDead)
	wantCheck(t, "a block beside", sample.Flagged(t, "b0:", "jump b2", "b1:", "jump b2", "b2:", "trap 0", "b3:", "trap 0"), 1, api.ErrDead)
	wantCheck(t, "blocks that go to each other", sample.Flagged(t, "b0:", "return v0", "b1:", "jump b2", "b2:", "branch v0 b1 b2"), 1, api.ErrDead)
	wantCheck(t, "all that goes there is dead", sample.Flagged(t, "b0:", "jump b1", "b1:", "jump b1", "b2:", "jump b3", "b3:", "jump b1"), 2, api.ErrDead)
	f := sample.Line(api.MaxBlocks)
	f.Blocks[api.MaxBlocks-2].Term = sample.Trap(1)
	wantCheck(t, "the last one", f, api.MaxBlocks-1, api.ErrDead)
	wantCheck(t, "a phi and a use at fault ahead of it", sample.Flagged(t,
		"b0:", "v1 = not v2", "v2 = not v1", "jump b1", "b1:", "v3 = phi bool", "trap 0", "b2:", "trap 0"), 2, api.ErrDead)
}

func TestPhi(t *testing.T) {
	for _, c := range []struct {
		what, phi string
		e         api.Errno
	}{
		{"all that go there", "v1 = phi bool b1 v0 b2 v0", api.OK},
		{"the other way round", "v1 = phi bool b2 v0 b1 v0", api.OK},
		{"one alone", "v1 = phi bool b1 v0", api.ErrPhi},
		{"the other one alone", "v1 = phi bool b2 v0", api.ErrPhi},
		{"none", "v1 = phi bool", api.ErrPhi},
		{"one too many", "v1 = phi bool b1 v0 b2 v0 b0 v0", api.ErrPhi},
		{"one too many, ahead", "v1 = phi bool b0 v0 b1 v0 b2 v0", api.ErrPhi},
		{"one for another", "v1 = phi bool b0 v0 b2 v0", api.ErrPhi},
		{"the last one for another", "v1 = phi bool b1 v0 b4 v0", api.ErrPhi},
		{"itself", "v1 = phi bool b1 v0 b2 v0 b3 v0", api.ErrPhi},
		{"all others", "v1 = phi bool b0 v0 b3 v0 b4 v0", api.ErrPhi},
	} {
		f := sample.Flagged(t, "b0:", "branch v0 b1 b2", "b1:", "jump b3", "b2:", "branch v0 b3 b3",
			"b3:", "v2 = phi bool b1 v0 b2 v0", c.phi, "v3 = phi bool b2 v0 b1 v0", "branch v0 b4 b4",
			"b4:", "v4 = phi bool b3 v1", "return v4")
		block := 0
		if c.e != api.OK {
			block = 3
		}
		wantCheck(t, c.what, f, block, c.e)
	}
	f := sample.Flagged(t, "b0:", "v1 = not v2", "v2 = not v1", "jump b1",
		"b1:", "v3 = phi bool b0 v4", "v4 = flag 1", "jump b2",
		"b2:", "v5 = phi bool b1 v0", "v6 = phi bool b1 v0 b0 v0", "jump b3", "b3:", "v7 = phi bool b0 v0", "trap 0")
	wantCheck(t, "uses at fault ahead of it, and another phi behind", f, 2, api.ErrPhi)
}

func TestUse(t *testing.T) {
	for _, c := range []struct {
		what  string
		f     api.Func
		block int
	}{
		{"of itself", sample.Flagged(t, "b0:", "v1 = not v1", "return v1"), 0},
		{"right ahead", sample.Flagged(t, "b0:", "v1 = not v2", "v2 = flag 0", "return v1"), 0},
		{"ahead in a loop", sample.Flagged(t, "b0:", "jump b1", "b1:", "v1 = not v2", "v2 = flag 0", "jump b1"), 1},
		{"of a block behind", sample.Flagged(t, "b0:", "v1 = not v2", "jump b1", "b1:", "v2 = flag 0", "return v1"), 0},
		{"of one arm alone", sample.Flagged(t, "b0:", "branch v0 b1 b2", "b1:", "v1 = flag 0", "jump b2", "b2:", "v2 = not v1", "return v2"), 2},
		{"of one arm in the other", sample.Flagged(t, "b0:", "branch v0 b1 b2", "b1:", "v1 = flag 0", "return v1", "b2:", "return v1"), 2},
		{"an end by a phi behind", sample.Flagged(t, "b0:", "branch v1 b1 b1", "b1:", "v1 = phi bool b0 v0", "return v1"), 0},
		{"an end by what is made in a loop's body", sample.Flagged(t, "b0:", "jump b1", "b1:", "branch v0 b2 b3", "b2:", "v1 = const 1", "jump b1", "b3:", "return v1"), 3},
		{"a phi of a value made behind", sample.Flagged(t, "b0:", "jump b1", "b1:", "v1 = phi bool b0 v2", "v2 = flag 1", "return v1"), 1},
		{"a phi of itself, from ahead", sample.Flagged(t, "b0:", "jump b1", "b1:", "v1 = phi bool b0 v1", "return v1"), 1},
		{"a phi of another one beside, from ahead", sample.Flagged(t, "b0:", "jump b1", "b1:", "v1 = phi bool b0 v0", "v2 = phi bool b0 v1", "return v1"), 1},
		{"a phi of the other arm's value", sample.Flagged(t, "b0:", "branch v0 b1 b2", "b1:", "v1 = flag 1", "jump b3", "b2:", "jump b3", "b3:", "v2 = phi bool b1 v0 b2 v1", "return v2"), 3},
		{"a phi ahead of a use in the block it is come from", sample.Flagged(t,
			"b0:", "jump b2", "b1:", "v1 = phi bool b2 v3", "v4 = not v4", "return v1", "b2:", "v2 = not v4", "v3 = flag 0", "jump b1"), 1},
		{"the first of some", sample.Flagged(t, "b0:", "jump b3", "b1:", "return v2", "b2:", "return v2", "b3:", "branch v0 b1 b4", "b4:", "v2 = flag 0", "jump b2"), 1},
	} {
		wantCheck(t, c.what, c.f, c.block, api.ErrUse)
	}
}

func TestLoose(t *testing.T) {
	sample.Loose(func(what string, f api.Func, block int, want api.Errno) { wantCheck(t, what, f, block, want) })
}

// TestSmall holds all graphs of up to four blocks, with phis from all blocks, against the plain words.
func TestSmall(t *testing.T) {
	seen := map[api.Errno]int{}
	for blocks := 1; blocks <= 4; blocks++ {
		sample.EachGraph(blocks, func(what string, f api.Func) {
			block, e := plainOf(f).check()
			seen[e]++
			wantCheck(t, what, f, block, e)
		})
	}
	if seen[api.OK] < 5 || seen[api.ErrDead] < 10000 || seen[api.ErrPhi] < 5000 {
		t.Errorf("the answers are %v", seen)
	}
}

// turnUses turns some uses of a dressed graph, told by choose, each to values of its type, and holds what comes against
// the plain words.
func turnUses(t *testing.T, what string, f api.Func, choose func(use, value int) bool) (oks, errors int) {
	t.Helper()
	wantCheck(t, what, f, 0, api.OK)
	p := plainOf(f)
	turn := func(uses []*int, values []int) {
		for use, at := range uses {
			was := *at
			for value, id := range values {
				if !choose(use, value) {
					continue
				}
				*at = id
				block, e := p.check()
				if e == api.OK {
					oks++
				} else {
					errors++
				}
				wantCheck(t, fmt.Sprint(what, ", use ", use, " is of ", id), f, block, e)
			}
			*at = was
		}
	}
	turn(numberUses(f), numbersOf(f))
	turn(flagUses(f), flagsOf(f))
	return oks, errors
}

// TestEachUse turns each use to each value, in all graphs of up to three blocks.
func TestEachUse(t *testing.T) {
	oks, errors := 0, 0
	for blocks := 1; blocks <= 3; blocks++ {
		sample.EachGraph(blocks, func(what string, ways api.Func) {
			if _, e := plainOf(ways).check(); e == api.ErrDead {
				return
			}
			o, e := turnUses(t, what, dressed(t, ways), func(use, value int) bool { return true })
			oks, errors = oks+o, errors+e
		})
	}
	if oks < 5000 || errors < 5000 {
		t.Errorf("just %d functions were strict, and %d were not", oks, errors)
	}
}

// TestSeeded turns uses in graphs of some ten blocks, with loops of many ways in.
func TestSeeded(t *testing.T) {
	oks, errors := 0, 0
	for seed := range 300 {
		ways, e := graph.Prune(sample.Seeded(5+seed%12, seed))
		if e != api.OK {
			t.Fatalf("error %d", e)
		}
		choose := func(use, value int) bool { return (use*31+value*17+seed)%7 == 0 }
		o, n := turnUses(t, fmt.Sprint("seed ", seed), dressed(t, ways), choose)
		oks, errors = oks+o, errors+n
	}
	if oks < 5000 || errors < 5000 {
		t.Errorf("just %d functions were strict, and %d were not", oks, errors)
	}
}

// TestGreat turns some uses in a line of as many blocks as there may be, forwards and backwards, and in a graph of many.
func TestGreat(t *testing.T) {
	back := sample.Line(api.MaxBlocks)
	for b := range back.Blocks {
		back.Blocks[b].Term = sample.Jump(max(b-1, 1))
	}
	back.Blocks[0].Term = sample.Jump(api.MaxBlocks - 1)
	seeded, e := graph.Prune(sample.Seeded(api.MaxBlocks, 21))
	if e != api.OK || len(seeded.Blocks) < api.MaxBlocks/2 {
		t.Fatalf("error %d, %d blocks", e, len(seeded.Blocks))
	}
	for what, ways := range map[string]api.Func{"a line": sample.Line(api.MaxBlocks), "a line backwards": back, "seed 21": seeded} {
		// The first values, of block 0, come ahead of all.
		choose := func(use, value int) bool { return use%67 == 5 && (value%97 == 7 || value < 3) }
		oks, errors := turnUses(t, what, dressed(t, ways), choose)
		if oks < 20 || errors < 20 {
			t.Errorf("%s: just %d functions were strict, and %d were not", what, oks, errors)
		}
	}
}

// fan is a line whose blocks all go to the last one, too, which has as many phis as there may be. Block b makes value 1 + b.
func fan() api.Func {
	const last = api.MaxBlocks - 1
	f := sample.Line(api.MaxBlocks)
	f.Params = []int{api.Bool}
	for b := range last {
		f.Blocks[b].Term = sample.Branch(0, b+1, last)
		f.Blocks[b].Code = []api.Instr{{Op: api.OpFlag, Id: 1 + b}}
	}
	for i := range api.MaxCode - api.MaxBlocks - last {
		p := api.Phi{Id: 1000 + i, Type: api.Bool}
		for k := range last {
			from := (2*k + i) % last
			p.From, p.Vals = append(p.From, from), append(p.Vals, 1+from/(1+i%9))
		}
		f.Blocks[last].Phis = append(f.Blocks[last].Phis, p)
	}
	return f
}

func TestFan(t *testing.T) {
	const last = api.MaxBlocks - 1
	f := fan()
	wantCheck(t, "a fan", f, 0, api.OK)
	phis := f.Blocks[last].Phis
	p := &phis[len(phis)-1]
	p.Vals[0] = p.From[0] + 2
	wantCheck(t, "a fan with a value of the block behind the one it is come from", f, last, api.ErrUse)
	p.From, p.Vals = p.From[1:], p.Vals[1:]
	wantCheck(t, "a fan without one of its ways", f, last, api.ErrPhi)
}
