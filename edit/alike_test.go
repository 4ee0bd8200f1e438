package edit_test

import (
	"fmt"
	"math"
	"testing"

	"strake/api"
	"strake/edit"
	"strake/fresh"
	"strake/sample"
	"strake/strict"
	"strake/text"
)

// disguised is a function with its blocks, but for block 0, its values and its phis' From in another order.
func disguised(t *testing.T, f api.Func, seed int) api.Func {
	t.Helper()
	next := sample.Numbering(seed)
	g := fresh.Func(f)
	place := append([]int{0}, shuffled(upFrom(1, len(f.Blocks)-1), next)...)
	ids := idsOf(t, f)[len(f.Params):]
	now := map[int]int{-1: -1}
	for id := range f.Params {
		now[id] = id
	}
	for i, id := range shuffled(upFrom(len(f.Params)+next(9), len(ids)), next) {
		now[ids[i]] = id
	}
	blocks := make([]api.Block, len(g.Blocks))
	for b, block := range g.Blocks {
		turn(block.Term.To, func(to int) int { return place[to] })
		block.Term.Val = now[block.Term.Val]
		for i := range block.Phis {
			disguisePhi(&block.Phis[i], place, now, next)
		}
		for i := range block.Code {
			in := &block.Code[i]
			in.Id = now[in.Id]
			turn(in.Args, func(id int) int { return now[id] })
		}
		blocks[place[b]] = block
	}
	g.Blocks = blocks
	return g
}

func disguisePhi(p *api.Phi, place []int, now map[int]int, next func(below int) int) {
	was := *p
	*p = api.Phi{Id: now[was.Id], Type: was.Type}
	for _, i := range shuffled(upFrom(0, len(was.From)), next) {
		p.From, p.Vals = append(p.From, place[was.From[i]]), append(p.Vals, now[was.Vals[i]])
	}
}

func turn(list []int, to func(n int) int) {
	for i := range list {
		list[i] = to(list[i])
	}
}

func TestAlike(t *testing.T) {
	wantAlike(t, "round, with other numbers", round(t), sample.Read(t, "func int arrays 0 cells 0",
		"b0:", "v9 = const 0", "v7 = const 1", "jump b2",
		"b1:", "v1 = phi int b2 v4", "return v1",
		"b2:", "v3 = phi int b3 v6 b0 v9", "v4 = phi int b3 v2 b0 v9", "v5 = lt v3 v0", "branch v5 b3 b1",
		"b3:", "v6 = add v3 v7", "v2 = add v4 v3", "out v2", "jump b2"), true)
	for seed := range 300 {
		f := sample.Busy(2+seed%40, seed)
		wantAlike(t, fmt.Sprint("seed ", seed), f, disguised(t, f, seed), true)
		wantAlike(t, fmt.Sprint("seed ", seed, " and another"), f, sample.Busy(2+seed%40, seed+1), false)
	}
}

// TestAlikeTurns changes a function in each place. Some changes leave a function alike, such as of a number that no use is of.
func TestAlikeTurns(t *testing.T) {
	strictOnes, alike := 0, 0
	for _, f := range []api.Func{sample.Whole(), round(t), sample.Busy(9, 16)} {
		renamed := plainOf(t, f).rename().function(t)
		sample.Turns(f, func(what string, g api.Func) {
			if _, e := strict.Check(g); e != api.OK {
				wantAlike(t, what, f, g, false)
				return
			}
			want := sample.Same(plainOf(t, g).rename().function(t), renamed)
			wantAlike(t, what, f, g, want)
			strictOnes++
			if want {
				alike++
			}
		})
	}
	if strictOnes-alike < 300 || alike < 100 {
		t.Errorf("just %d functions were strict, and %d of them alike", strictOnes, alike)
	}
}

// TestAlikeParts: each part counts, where a text may differ in nothing but it.
func TestAlikeParts(t *testing.T) {
	base := func() api.Func {
		return sample.Read(t, "func bool int arrays 2 cells 2", "b0:", "v2 = const 1", "v3 = load 0 v2", "store 0 v2 v3", "set 0 v2", "branch v0 b1 b2",
			"b1:", "v4 = phi int b0 v2", "return v4", "b2:", "v5 = phi bool b0 v0", "trap 1")
	}
	wantAlike(t, "nothing", base(), base(), true)
	for i, change := range []func(f *api.Func){
		func(f *api.Func) { f.Params[1] = api.Bool },
		func(f *api.Func) { f.Arrays = 3 },
		func(f *api.Func) { f.Cells = 3 },
		func(f *api.Func) { f.Blocks[0].Code[0].N = 2 },
		func(f *api.Func) { f.Blocks[0].Code[1].Op = api.OpFetch },
		func(f *api.Func) { f.Blocks[0].Code[2].N = 1 },
		func(f *api.Func) { f.Blocks[0].Code[2].Args = []int{3, 2} },
		func(f *api.Func) { f.Blocks[0].Code[3].N = 1 },
		func(f *api.Func) { f.Blocks[0].Code[3].Args[0] = 3 },
		func(f *api.Func) { f.Blocks[0].Code = f.Blocks[0].Code[:3] },
		func(f *api.Func) { c := f.Blocks[0].Code; c[2], c[3] = c[3], c[2] },
		func(f *api.Func) { f.Blocks[0].Term.To = []int{2, 1} },
		func(f *api.Func) { f.Blocks[1].Phis[0].Vals[0] = 3 },
		func(f *api.Func) {
			f.Blocks[1].Phis = append(f.Blocks[1].Phis, api.Phi{Id: 6, Type: api.Int, From: []int{0}, Vals: []int{2}})
		},
		func(f *api.Func) { f.Blocks[1].Term.Val = 2 },
		func(f *api.Func) { f.Blocks[1].Term = sample.Trap(1) },
		func(f *api.Func) { f.Blocks[2].Phis[0] = api.Phi{Id: 5, Type: api.Int, From: []int{0}, Vals: []int{2}} },
		func(f *api.Func) { f.Blocks[2].Term.N = 2 },
		func(f *api.Func) { f.Blocks[2].Term = sample.Jump(1); f.Blocks[1].Phis = nil; f.Blocks[1].Term.Val = 2 },
	} {
		f := base()
		change(&f)
		if _, e := strict.Check(f); e != api.OK {
			t.Errorf("change %d: error %d", i, e)
		}
		wantAlike(t, fmt.Sprint("change ", i), base(), f, false)
	}
}

// TestAlikeLoose: what is not strict is like nothing, not even itself.
func TestAlikeLoose(t *testing.T) {
	ask := func(what string, f api.Func) {
		wantAlike(t, what, f, f, false)
		wantAlike(t, what, f, sample.Whole(), false)
	}
	sample.Wrong(func(what string, f api.Func, _ api.Errno) { ask(what, f) })
	sample.Loose(func(what string, f api.Func, _ int, _ api.Errno) { ask(what, f) })
}

// TestAlikeGreat has functions whose texts would be too long, renamed or not: they differ at the end alone.
func TestAlikeGreat(t *testing.T) {
	great := func(id, last int) api.Func {
		var code []api.Instr
		for i := range api.MaxCode - 1 {
			code = append(code, api.Instr{Op: api.OpConst, Id: id + i, N: math.MinInt})
		}
		code[len(code)-1].N = last
		return api.Func{Blocks: []api.Block{{Code: code, Term: sample.Trap(0)}}}
	}
	renamed, e := edit.Rename(great(9, 1))
	if _, long := text.Print(renamed); e != api.OK || long != api.ErrLong {
		t.Fatalf("errors %d, %d", e, long)
	}
	wantAlike(t, "great", great(9, 1), great(api.MaxId-api.MaxCode+1, 1), true)
	wantAlike(t, "great, with another end", great(9, 1), great(9, 2), false)
}
