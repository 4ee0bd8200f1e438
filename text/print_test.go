package text_test

import (
	"fmt"
	"math"
	"testing"

	"strake/api"
	"strake/sample"
	"strake/text"
)

func wantPrint(t *testing.T, what string, f api.Func, want string, wantE api.Errno) {
	t.Helper()
	if got, e := text.Print(f); got != want || e != wantE {
		t.Errorf("%s: Print answers %.200q, %d, want %.200q, %d", what, got, e, want, wantE)
	}
}

func TestPrint(t *testing.T) {
	wantPrint(t, "rich", sample.Rich(), rich(), api.OK)
	wantPrint(t, "bare", sample.Bare(), lines("func arrays 0 cells 0", "b0:", "trap 0"), api.OK)
	f := api.Func{Params: []int{api.Bool, api.Int, api.Int}, Arrays: 8, Cells: 64, Blocks: []api.Block{
		{Code: []api.Instr{{Op: api.OpConst, Id: 1048575, N: math.MinInt}, {Op: api.OpConst, Id: 3, N: -1}}, Term: sample.Jump(2)},
		{Term: sample.Return(1048575)},
		{Phis: []api.Phi{{Id: 9, Type: api.Bool}, {Id: 8, Type: api.Int, From: []int{2, 0}, Vals: []int{8, 3}}}, Term: sample.Trap(math.MaxInt)},
	}}
	wantPrint(t, "numbers at their ends", f, lines(
		"func bool int int arrays 8 cells 64",
		"b0:",
		"v1048575 = const -9223372036854775808",
		"v3 = const -1",
		"jump b2",
		"b1:",
		"return v1048575",
		"b2:",
		"v9 = phi bool",
		"v8 = phi int b2 v8 b0 v3",
		"trap 9223372036854775807",
	), api.OK)
}

func TestPrintTellsErrors(t *testing.T) {
	wantPrint(t, "nothing", api.Func{}, "", api.ErrForm)
	for _, c := range []struct {
		change func(f *api.Func)
		want   api.Errno
	}{
		{func(f *api.Func) { f.Blocks[0].Code[0].Op = 26 }, api.ErrForm},
		{func(f *api.Func) { f.Params[0] = 3 }, api.ErrForm},
		{func(f *api.Func) { f.Blocks[6].Term.Val = 99 }, api.ErrUse},
		{func(f *api.Func) { f.Blocks[3].Term.Val = 0 }, api.ErrType},
	} {
		f := sample.Rich()
		c.change(&f)
		wantPrint(t, fmt.Sprint("error ", c.want), f, "", c.want)
		// The error of ir.Check comes ahead of ErrLong.
		for id := range 3900 {
			f.Blocks[2].Code = append(f.Blocks[2].Code, api.Instr{Op: api.OpConst, Id: 100 + id, N: math.MinInt})
		}
		wantPrint(t, fmt.Sprint("error ", c.want, ", long"), f, "", c.want)
	}
}

// long has a text of so many bytes: short lines, and one of the length that is left.
func long(t *testing.T, bytes int) (api.Func, string) {
	t.Helper()
	f, want := sample.Bare(), lines("func arrays 0 cells 0", "b0:")
	b := &f.Blocks[0]
	add := func(n int) {
		id := 100000 + len(b.Code)
		b.Code = append(b.Code, api.Instr{Op: api.OpConst, Id: id, N: n})
		want += fmt.Sprintf("v%d = const %d\n", id, n)
	}
	short, end := len("v100000 = const 1\n"), len("trap 0\n")
	for len(want)+2*short+end <= bytes {
		add(1)
	}
	n := 1
	for len(want)+short+end < bytes-len(fmt.Sprint(n))+1 {
		n *= 10
	}
	add(n)
	want += "trap 0\n"
	if len(want) != bytes {
		t.Fatalf("a text of %d bytes has %d", bytes, len(want))
	}
	return f, want
}

func TestPrintLong(t *testing.T) {
	for _, bytes := range []int{60000, 65534, 65535, 65536} {
		f, want := long(t, bytes)
		wantPrint(t, fmt.Sprint(bytes, " bytes"), f, want, api.OK)
	}
	for _, bytes := range []int{65537, 65538, 70000} {
		f, _ := long(t, bytes)
		wantPrint(t, fmt.Sprint(bytes, " bytes"), f, "", api.ErrLong)
	}
}

// TestPrintLongest: as much as a formed function can have, in phis that come from everywhere.
func TestPrintLongest(t *testing.T) {
	f := api.Func{Params: []int{api.Int}}
	p := api.Phi{Type: api.Int}
	for b := range api.MaxBlocks {
		f.Blocks = append(f.Blocks, api.Block{Term: sample.Trap(0)})
		p.From, p.Vals = append(p.From, b), append(p.Vals, 0)
	}
	for id := range api.MaxCode - api.MaxBlocks {
		p.Id = 1 + id
		f.Blocks[1].Phis = append(f.Blocks[1].Phis, p)
	}
	wantPrint(t, "the longest", f, "", api.ErrLong)
}
