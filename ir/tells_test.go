package ir_test

import (
	"slices"
	"testing"

	"strake/api"
	"strake/ir"
	"strake/sample"
)

func TestIds(t *testing.T) {
	var all []int
	for id := range 26 {
		all = append(all, id)
	}
	if ids, e := ir.Ids(sample.Rich()); e != api.OK || !slices.Equal(ids, all) {
		t.Errorf("Ids of rich: %v, %d", ids, e)
	}
	if ids, e := ir.Ids(sample.Bare()); e != api.OK || len(ids) != 0 {
		t.Errorf("Ids of bare: %v, %d", ids, e)
	}
	f := api.Func{Params: []int{api.Bool, api.Int}, Blocks: []api.Block{
		{Code: []api.Instr{{Op: api.OpConst, Id: 1048575}, {Op: api.OpConst, Id: 700}, {Op: api.OpOut, Id: -1, Args: []int{1}}}, Term: sample.Jump(1)},
		{Phis: []api.Phi{{Id: 5, Type: api.Int, From: []int{0}, Vals: []int{1}}}, Code: []api.Instr{{Op: api.OpFlag, Id: 2}}, Term: sample.Trap(0)},
		{Code: []api.Instr{{Op: api.OpConst, Id: 4}}, Term: sample.Trap(0)},
	}}
	if ids, e := ir.Ids(f); e != api.OK || !slices.Equal(ids, []int{0, 1, 2, 4, 5, 700, 1048575}) {
		t.Errorf("Ids, not in order: %v, %d", ids, e)
	}
}

func TestTypeOf(t *testing.T) {
	f := sample.Rich()
	for id := range 26 {
		want := api.Int
		if slices.Contains([]int{1, 3, 14, 15, 16, 17, 24}, id) {
			want = api.Bool
		}
		if typ, e := ir.TypeOf(f, id); typ != want || e != api.OK {
			t.Errorf("TypeOf(%d): %d, %d, want %d", id, typ, e, want)
		}
	}
	for _, r := range table() {
		typ, e := ir.TypeOf(single(r), 2)
		if r.makes == "" {
			if typ != 0 || e != api.ErrNone {
				t.Errorf("operation %d makes nothing: %d, %d", r.op, typ, e)
			}
		} else if typ != typeNamed(rune(r.makes[0])) || e != api.OK {
			t.Errorf("operation %d: %d, %d", r.op, typ, e)
		}
	}
}

func TestUses(t *testing.T) {
	want := map[int]int{
		0:  13 + 1 + 1 + 1 + 1, // the operations of two numbers, select, load, store, put
		1:  2,                  // not, select
		2:  13 + 1 + 1 + 1 + 1 + 1 + 1,
		3:  1,
		14: 1,
		17: 1, // a branch to one block twice is one use
		20: 1,
		23: 2 + 1, // twice in one instruction, and given back in a block that nothing goes to
		24: 2,     // a branch, and given back
		25: 1,
	}
	f := sample.Rich()
	for id := range 26 {
		if n, e := ir.Uses(f, id); n != want[id] || e != api.OK {
			t.Errorf("Uses(%d): %d, %d, want %d", id, n, e, want[id])
		}
	}
	p := api.Func{Params: []int{api.Int}, Blocks: []api.Block{
		{Term: sample.Jump(1)},
		{Phis: []api.Phi{{Id: 1, Type: api.Int, From: []int{0, 1, 2}, Vals: []int{0, 1, 0}}}, Term: sample.Jump(1)},
		{Term: sample.Trap(1)},
	}}
	for id, want := range []int{2, 1} {
		if n, e := ir.Uses(p, id); n != want || e != api.OK {
			t.Errorf("Uses of a phi's %d: %d, %d, want %d", id, n, e, want)
		}
	}
	// The N of a trap, of a constant or of an array is no use, whatever value has that number.
	p.Blocks[2].Term.N = 0
	p.Blocks[0].Code = []api.Instr{{Op: api.OpConst, Id: 2, N: 0}}
	if n, e := ir.Uses(p, 0); n != 2 || e != api.OK {
		t.Errorf("Uses, with numbers alike: %d, %d", n, e)
	}
}

func TestNoSuchValue(t *testing.T) {
	for _, id := range append(sample.Edges(), 27) {
		if id >= 0 && id <= 25 {
			continue
		}
		if typ, e := ir.TypeOf(sample.Rich(), id); typ != 0 || e != api.ErrNone {
			t.Errorf("TypeOf(%d): %d, %d", id, typ, e)
		}
		if n, e := ir.Uses(sample.Rich(), id); n != 0 || e != api.ErrNone {
			t.Errorf("Uses(%d): %d, %d", id, n, e)
		}
	}
	if _, e := ir.TypeOf(sample.Bare(), 0); e != api.ErrNone {
		t.Errorf("TypeOf where nothing is: %d", e)
	}
	if _, e := ir.Uses(sample.Bare(), 0); e != api.ErrNone {
		t.Errorf("Uses where nothing is: %d", e)
	}
}

func TestSize(t *testing.T) {
	for _, c := range []struct {
		f    api.Func
		want int
	}{
		{sample.Bare(), 1},
		{sample.Rich(), 2 + 26 + 7},
		{heavy(0, 0, 512), 512},
		{heavy(3, 0, 2), 5},
		{heavy(0, 3, 2), 5},
		{heavy(1000, 2584, 512), 4096},
	} {
		if n, e := ir.Size(c.f); n != c.want || e != api.OK {
			t.Errorf("Size: %d, %d, want %d", n, e, c.want)
		}
	}
}

// TestTellsErrors: each call answers Check's error, and it comes ahead of ErrNone.
func TestTellsErrors(t *testing.T) {
	for _, c := range []struct {
		change func(f *api.Func)
		want   api.Errno
	}{
		{func(f *api.Func) { f.Cells = -1 }, api.ErrForm},
		{func(f *api.Func) { f.Blocks[6].Term.Val = 99 }, api.ErrUse},
		{func(f *api.Func) { f.Blocks[3].Term.Val = 0 }, api.ErrType},
	} {
		f := sample.Rich()
		c.change(&f)
		wantCheck(t, "a fault", f, c.want)
		for _, id := range []int{-1, 0, 5, 99} {
			wantTells(t, f, id, c.want)
		}
	}
}

// wantTells asks for an error of all calls of P1.2, and for zero values beside it.
func wantTells(t *testing.T, f api.Func, id int, want api.Errno) {
	t.Helper()
	if ids, e := ir.Ids(f); len(ids) != 0 || e != want {
		t.Errorf("Ids: %v, %d, want error %d", ids, e, want)
	}
	if typ, e := ir.TypeOf(f, id); typ != 0 || e != want {
		t.Errorf("TypeOf(%d): %d, %d, want error %d", id, typ, e, want)
	}
	if n, e := ir.Uses(f, id); n != 0 || e != want {
		t.Errorf("Uses(%d): %d, %d, want error %d", id, n, e, want)
	}
	if n, e := ir.Size(f); n != 0 || e != want {
		t.Errorf("Size: %d, %d, want error %d", n, e, want)
	}
}
