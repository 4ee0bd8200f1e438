package repair_test

import (
	"fmt"
	"slices"
	"strconv"
	"testing"

	"strake/api"
	"strake/interp"
	"strake/repair"
	"strake/sample"
)

func TestLower(t *testing.T) {
	f := turns(t)
	want := sample.Read(t, "func int bool arrays 0 cells 5",
		"b0:", "v14 = const 0", "v15 = const 1", "v2 = const 1", "v3 = const 2", "set 0 v3",
		"set 1 v2", "set 2 v3", "v16 = select v1 v15 v14", "set 3 v16", "set 4 v0", "jump b1",
		"b1:", "v4 = get 1", "v5 = get 2", "v18 = get 3", "v6 = eq v18 v15", "v7 = get 4", "v8 = lt v7 v2", "branch v8 b3 b2",
		"b2:", "v9 = not v6", "v10 = sub v7 v2", "out v4",
		"set 1 v5", "set 2 v4", "v17 = select v9 v15 v14", "set 3 v17", "set 4 v10", "jump b1",
		"b3:", "v11 = select v6 v4 v5", "v12 = get 0", "v13 = mul v11 v12", "return v13")
	wantLower(t, "turns", f, want, api.OK)
	isLowered(t, "turns", f, want)
	for n := range 9 {
		for flag := range 2 {
			in := api.Input{Args: []int{n, flag}}
			if why := sample.Does(f, want, in); why != "" {
				t.Errorf("%d turns from %d: %s", n, flag, why)
			}
			out := []int{1, 2, 1, 2, 1, 2, 1, 2}[:n]
			if r := interp.Run(want, in, 1000); r.End != api.Returned || r.Value != 4-2*flag || !slices.Equal(r.Out, out) {
				t.Errorf("%d turns from %d: %v", n, flag, r)
			}
		}
	}
}

// TestLowerWays: a block that goes to several sets the cells of all their phis, each once.
func TestLowerWays(t *testing.T) {
	wantLower(t, "two blocks", sample.Read(t, "func int bool arrays 0 cells 2",
		"b0:", "v2 = const 7", "branch v1 b1 b2",
		"b1:", "v3 = phi int b0 v0", "branch v1 b2 b2",
		"b2:", "v4 = phi int b1 v3 b0 v2", "v5 = add v4 v4", "return v5"),
		sample.Read(t, "func int bool arrays 0 cells 4",
			"b0:", "v2 = const 7", "set 2 v0", "set 3 v2", "branch v1 b1 b2",
			"b1:", "v3 = get 2", "set 3 v3", "branch v1 b2 b2",
			"b2:", "v4 = get 3", "v5 = add v4 v4", "return v5"), api.OK)
	itself := sample.Read(t, "func int bool arrays 0 cells 0",
		"b0:", "jump b1", "b1:", "v2 = phi bool b0 v1 b1 v3", "v3 = not v2", "out v0", "branch v3 b1 b1")
	wantLower(t, "a block that goes to itself", itself, sample.Read(t, "func int bool arrays 0 cells 1",
		"b0:", "v4 = const 0", "v5 = const 1", "v6 = select v1 v5 v4", "set 0 v6", "jump b1",
		"b1:", "v8 = get 0", "v2 = eq v8 v5", "v3 = not v2", "out v0", "v7 = select v3 v5 v4", "set 0 v7", "branch v3 b1 b1"), api.OK)
	wantLower(t, "no phis", rounds(t), rounds(t), api.OK)
	wantLower(t, "bare", sample.Bare(), sample.Bare(), api.OK)
}

// wantLowered asks for all that P8.3 says, where what comes is within the limits.
func wantLowered(t *testing.T, what string, f api.Func) {
	t.Helper()
	g, e := repair.Lower(f)
	if e != api.OK {
		t.Errorf("%s: Lower answers error %d", what, e)
		return
	}
	isLowered(t, what, f, g)
	wantDoes(t, what, f, g)
}

func TestLowerBusy(t *testing.T) {
	lowered, flags := 0, 0
	for seed := range 300 {
		f, what := sample.Celled(2+seed%30, seed), fmt.Sprint("seed ", seed)
		if phisOf(f)+f.Cells > api.MaxCells {
			wantLower(t, what, f, api.Func{}, api.ErrCell)
			continue
		}
		wantLowered(t, what, f)
		lowered++
		for _, b := range f.Blocks {
			for _, p := range b.Phis {
				flags += p.Type - api.Int
			}
		}
	}
	if lowered < 150 || flags < 500 {
		t.Errorf("just %d functions could be made, with %d flags in phis", lowered, flags)
	}
}

// fan goes from each of its blocks but the last to the next, and to the last, which has so many phis of a type.
func fan(last, phis, typ int) api.Func {
	f := api.Func{Params: []int{api.Int, api.Bool}, Blocks: make([]api.Block, last+1)}
	f.Blocks[last].Term = sample.Trap(0)
	for p := range phis {
		f.Blocks[last].Phis = append(f.Blocks[last].Phis, api.Phi{Id: 2 + p, Type: typ})
	}
	for b := range last {
		f.Blocks[b].Term = sample.Branch(1, b+1, last)
		for p := range phis {
			phi := &f.Blocks[last].Phis[p]
			phi.From, phi.Vals = append(phi.From, b), append(phi.Vals, typ-api.Int)
		}
	}
	return f
}

// TestLowerCells: the cells that are there and the phis count together, ahead of all else.
func TestLowerCells(t *testing.T) {
	with := func(phis, cells int) api.Func {
		f := fan(4, phis, api.Int)
		f.Cells = cells
		return f
	}
	for _, c := range []struct {
		phis, cells int
		want        api.Errno
	}{
		{64, 0, api.OK}, {65, 0, api.ErrCell}, {0, 64, api.OK}, {1, 64, api.ErrCell}, {1, 63, api.OK}, {2, 63, api.ErrCell}, {30, 34, api.OK}, {31, 34, api.ErrCell},
		{1000, 64, api.ErrCell},
	} {
		what := strconv.Itoa(c.phis) + " phis, " + strconv.Itoa(c.cells) + " cells"
		if c.want != api.OK {
			wantLower(t, what, with(c.phis, c.cells), api.Func{}, c.want)
		} else {
			wantLowered(t, what, with(c.phis, c.cells))
		}
	}
	wantLower(t, "too many cells, and too much code", fan(400, 65, api.Int), api.Func{}, api.ErrCell)
	wantLower(t, "too much code", fan(400, 64, api.Int), api.Func{}, api.ErrForm)
	apart := fan(4, 40, api.Int)
	for b := range 25 {
		apart.Blocks[1].Phis = append(apart.Blocks[1].Phis, api.Phi{Id: 100 + b, Type: api.Bool, From: []int{0}, Vals: []int{1}})
	}
	wantLower(t, "phis of several blocks", apart, api.Func{}, api.ErrCell)
	apart.Blocks[1].Phis = apart.Blocks[1].Phis[:24]
	wantLowered(t, "phis of several blocks, one less", apart)
}

// TestLowerLimitsOfSize: of a phi there is one that asks, and for each way one that sets.
func TestLowerLimitsOfSize(t *testing.T) {
	const room = api.MaxCode - 401 - 9 - 9*400
	g := wantFits(t, "just full", padded(fan(400, 9, api.Int), room), repair.Lower, true)
	if n := sizeOf(t, g); n != api.MaxCode {
		t.Errorf("the size is %d", n)
	}
	wantFits(t, "one more", padded(fan(400, 9, api.Int), room+1), repair.Lower, false)
	wantFits(t, "far more", fan(500, 64, api.Bool), repair.Lower, false)
	full := padded(fan(400, 0, api.Int), api.MaxCode-401)
	wantFits(t, "a full function", full, repair.Lower, true)
}

// TestLowerLimitsOfIds: flags alone need new values: two numbers, one a phi, and one a way.
func TestLowerLimitsOfIds(t *testing.T) {
	with := func(id, typ int) api.Func {
		f := fan(2, 1, typ)
		f.Blocks[2].Phis[0].Id = id
		return f
	}
	wantFits(t, "a number", with(api.MaxId-1, api.Int), repair.Lower, true)
	wantFits(t, "a flag, and room for five", with(api.MaxId-6, api.Bool), repair.Lower, true)
	wantFits(t, "a flag, and room for four", with(api.MaxId-5, api.Bool), repair.Lower, false)
	wantFits(t, "a flag, and no room", with(api.MaxId-1, api.Bool), repair.Lower, false)
}
