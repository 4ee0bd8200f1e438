package sample_test

import (
	"fmt"
	"slices"
	"strings"
	"testing"

	"strake/api"
	"strake/ir"
	"strake/sample"
	"strake/strict"
)

func TestSamplesAreFunctions(t *testing.T) {
	for i, f := range []api.Func{sample.Rich(), sample.Whole(), sample.Bare()} {
		if e := ir.Check(f); e != api.OK {
			t.Errorf("sample %d: error %d", i, e)
		}
	}
}

func TestSame(t *testing.T) {
	f, g := sample.Rich(), sample.Rich()
	g.Blocks[2].Phis, g.Blocks[0].Code[0].Args = []api.Phi{}, []int{}
	if !sample.Same(f, g) || !sample.Same(f, sample.Roomy(f)) {
		t.Error("one function is two")
	}
	turned := 0
	sample.Turns(f, func(what string, g api.Func) {
		if !sample.Same(f, g) {
			turned++
		}
	})
	if turned < 1000 {
		t.Errorf("just %d functions are other ones", turned)
	}
	if !sample.Same(f, sample.Rich()) {
		t.Error("Turns changes what it is given")
	}
}

func TestMemory(t *testing.T) {
	f := sample.Roomy(sample.Rich())
	before := sample.Memory(f)
	args := f.Blocks[2].Code[0].Args
	args = append(args, 5)
	if len(args) == 0 || sample.Memory(f) == before {
		t.Error("spare room is not looked at")
	}
}

func TestApart(t *testing.T) {
	if !sample.Apart(sample.Rich(), sample.Roomy(sample.Rich()), sample.Roomy(sample.Rich())) {
		t.Error("what shares nothing is not apart")
	}
	for i, share := range []func(f, g *api.Func){
		func(f, g *api.Func) { g.Params = f.Params },
		func(f, g *api.Func) { g.Params = f.Params[2:5] },
		func(f, g *api.Func) { g.Blocks = f.Blocks[:3] },
		func(f, g *api.Func) { g.Blocks[0].Code = f.Blocks[0].Code[3:] },
		func(f, g *api.Func) { g.Blocks[1].Phis = f.Blocks[1].Phis },
		func(f, g *api.Func) { g.Blocks[1].Phis[0].From = g.Blocks[1].Phis[0].Vals },
		func(f, g *api.Func) { g.Blocks[1].Term.To = f.Blocks[3].Term.To[1:] },
		func(f, g *api.Func) { g.Blocks[0].Code[4].Args = g.Blocks[0].Code[5].Args[2:3] },
	} {
		f, g := sample.Roomy(sample.Rich()), sample.Roomy(sample.Rich())
		share(&f, &g)
		if sample.Apart(f, g) {
			t.Errorf("sharing %d is not seen", i)
		}
	}
}

func TestWrong(t *testing.T) {
	seen := map[api.Errno]bool{}
	sample.Wrong(func(what string, f api.Func, want api.Errno) {
		seen[want] = true
		if e := ir.Check(f); e != want || e == api.OK {
			t.Errorf("%s: error %d, want %d", what, e, want)
		}
	})
	if len(seen) != 3 {
		t.Errorf("the errors are %v", seen)
	}
}

func TestAloneLists(t *testing.T) {
	roomy := func() []int { return make([]int, 2, 9) }
	a, b := roomy(), roomy()
	if !sample.AloneLists([][]int{a, nil, b, roomy(), {}}) {
		t.Error("what shares nothing is not alone")
	}
	for i, shared := range [][]int{a, a[1:], a[2:2], a[2:5]} {
		if sample.AloneLists([][]int{a, b, shared}) {
			t.Errorf("sharing %d is not seen", i)
		}
	}
}

func TestLine(t *testing.T) {
	for _, blocks := range []int{1, 2, 3, api.MaxBlocks} {
		f := sample.Line(blocks)
		if e := ir.Check(f); e != api.OK || len(f.Blocks) != blocks {
			t.Errorf("a line of %d blocks: %d, error %d", blocks, len(f.Blocks), e)
		}
		for b := range blocks - 1 {
			if to := f.Blocks[b].Term.To; len(to) != 1 || to[0] != b+1 {
				t.Errorf("a line of %d blocks: block %d goes to %v", blocks, b, to)
			}
		}
	}
}

func TestSeeded(t *testing.T) {
	comes := 0
	for seed := range 40 {
		f := sample.Seeded(2+seed, seed)
		if e := ir.Check(f); e != api.OK || len(f.Blocks) != 2+seed {
			t.Errorf("seed %d: %d blocks, error %d", seed, len(f.Blocks), e)
		}
		if !sample.Same(f, sample.Seeded(2+seed, seed)) || sample.Same(f, sample.Seeded(2+seed, seed+1)) {
			t.Errorf("seed %d does not tell the graph", seed)
		}
		for _, come := range sample.Without(f, -1) {
			if come {
				comes++
			}
		}
	}
	if comes < 300 {
		t.Errorf("just %d blocks could be come to", comes)
	}
}

func TestNumbering(t *testing.T) {
	next, again, seen := sample.Numbering(5), sample.Numbering(5), map[int]bool{}
	for range 1000 {
		n := next(7)
		if n < 0 || n > 6 || n != again(7) {
			t.Fatalf("the number is %d", n)
		}
		seen[n] = true
	}
	if len(seen) != 7 {
		t.Errorf("the numbers are %v", seen)
	}
}

func TestWithout(t *testing.T) {
	f := sample.Flagged(t, "b0:", "branch v0 b1 b2", "b1:", "jump b3", "b2:", "jump b3", "b3:", "branch v0 b4 b1", "b4:", "trap 0", "b5:", "jump b4")
	for cut, want := range map[int][]bool{
		-1: {true, true, true, true, true, false}, 0: {false, false, false, false, false, false},
		1: {true, false, true, true, true, false}, 3: {true, true, true, false, false, false}, 5: {true, true, true, true, true, false},
	} {
		if got := sample.Without(f, cut); !slices.Equal(got, want) {
			t.Errorf("without %d: %v, want %v", cut, got, want)
		}
	}
}

func TestLoose(t *testing.T) {
	seen := map[api.Errno]bool{}
	sample.Loose(func(what string, f api.Func, block int, want api.Errno) {
		seen[want] = true
		if e := ir.Check(f); e != api.OK || block < 0 || block >= len(f.Blocks) {
			t.Errorf("%s: error %d, block %d", what, e, block)
		}
	})
	if len(seen) != 3 {
		t.Errorf("the errors are %v", seen)
	}
}

func TestEachGraph(t *testing.T) {
	for blocks, want := range map[int]int{1: 1, 2: 9, 3: 343, 4: 28561} {
		n, seen := 0, map[string]bool{}
		sample.EachGraph(blocks, func(what string, f api.Func) {
			n++
			seen[what] = true
			if e := ir.Check(f); e != api.OK {
				t.Fatalf("%s: error %d", what, e)
			}
		})
		if n != want || len(seen) != want {
			t.Errorf("%d graphs of %d blocks, %d of them told apart, want %d", n, blocks, len(seen), want)
		}
	}
}

// failer writes down why a test would give up.
type failer struct{ why []string }

func (*failer) Helper() {}

func (f *failer) Fatalf(format string, args ...any) {
	f.why = append(f.why, fmt.Sprintf(format, args...))
}

func TestRead(t *testing.T) {
	var test failer
	got := sample.Read(&test, "func int arrays 1 cells 0", "b0:", "v1 = load 0 v0", "return v1")
	want := api.Func{Params: []int{api.Int}, Arrays: 1, Blocks: []api.Block{
		{Code: []api.Instr{{Op: api.OpLoad, Id: 1, Args: []int{0}}}, Term: sample.Return(1)},
	}}
	if !sample.Same(got, want) || len(test.why) != 0 {
		t.Errorf("Read reads %v, and says %q", got, test.why)
	}
	sample.Read(&test, "func arrays 0 cells 0", "b0:", "return v0")
	if len(test.why) != 1 || !strings.Contains(test.why[0], "error 6 at line 0") {
		t.Errorf("Read says %q of a use at fault", test.why)
	}
}

func TestFlagged(t *testing.T) {
	var test failer
	got := sample.Flagged(&test, "b0:", "branch v0 b1 b1", "b1:", "return v0")
	want := api.Func{Params: []int{api.Bool}, Blocks: []api.Block{{Term: sample.Branch(0, 1, 1)}, {Term: sample.Return(0)}}}
	if !sample.Same(got, want) || len(test.why) != 0 {
		t.Errorf("Flagged reads %v, and says %q", got, test.why)
	}
	sample.Flagged(&test, "b0:", "branch v0 b1 b1", "b1:", "back v0")
	if len(test.why) != 1 || !strings.Contains(test.why[0], "line 5") {
		t.Errorf("Flagged says %q of a line at fault", test.why)
	}
}

func TestBusy(t *testing.T) {
	ops, ends, phis, blocks := map[int]int{}, map[int]int{}, 0, 0
	for seed := range 600 {
		most := 2 + seed%99
		f := sample.Busy(most, seed)
		if b, e := strict.Check(f); e != api.OK || len(f.Blocks) > most {
			t.Errorf("seed %d: %d blocks, error %d at %d", seed, len(f.Blocks), e, b)
		}
		if !sample.Same(f, sample.Busy(most, seed)) {
			t.Errorf("seed %d: the function is another one the second time", seed)
		}
		blocks = max(blocks, len(f.Blocks))
		for _, b := range f.Blocks {
			ends[b.Term.Op]++
			phis += len(b.Phis)
			for _, in := range b.Code {
				ops[in.Op]++
			}
		}
	}
	for op := api.OpConst; op <= api.OpSet; op++ {
		if ops[op] < 500 {
			t.Errorf("just %d operations are %d", ops[op], op)
		}
	}
	for end := api.Jump; end <= api.Trap; end++ {
		if ends[end] < 100 {
			t.Errorf("just %d ends are %d", ends[end], end)
		}
	}
	if phis < 3000 || blocks < 50 {
		t.Errorf("just %d phis, and at most %d blocks", phis, blocks)
	}
}

func TestCelled(t *testing.T) {
	gets, sets := 0, 0
	for seed := range 200 {
		most := 2 + seed%60
		f := sample.Celled(most, seed)
		if b, e := strict.Check(f); e != api.OK || len(f.Blocks) > most || f.Cells != 3 {
			t.Errorf("seed %d: %d blocks, %d cells, error %d at %d", seed, len(f.Blocks), f.Cells, e, b)
		}
		if !sample.Same(f, sample.Celled(most, seed)) {
			t.Errorf("seed %d: the function is another one the second time", seed)
		}
		for _, b := range f.Blocks {
			for _, in := range b.Code {
				if in.Op == api.OpGet {
					gets++
				} else if in.Op == api.OpSet {
					sets++
				}
			}
		}
	}
	if gets < 2000 || sets < 2000 {
		t.Errorf("just %d cells are asked for, and %d set", gets, sets)
	}
}
