package ir_test

import (
	"fmt"
	"math"
	"testing"

	"strake/api"
	"strake/ir"
	"strake/sample"
)

func wantCheck(t *testing.T, what string, f api.Func, want api.Errno) {
	t.Helper()
	if got := ir.Check(f); got != want {
		t.Errorf("%s: Check answers %d, want %d", what, got, want)
	}
}

// okOnly is OK, where good holds, else ErrForm.
func okOnly(good bool) api.Errno {
	if good {
		return api.OK
	}
	return api.ErrForm
}

// turn is a change of rich, and what Check says of it then.
type turn struct {
	what   string
	change func(f *api.Func)
	want   api.Errno
}

func runTurns(t *testing.T, turns []turn) {
	t.Helper()
	for _, turn := range turns {
		f := sample.Rich()
		turn.change(&f)
		wantCheck(t, turn.what, f, turn.want)
	}
}

func TestCheckOrdinary(t *testing.T) {
	wantCheck(t, "rich", sample.Rich(), api.OK)
	wantCheck(t, "bare", sample.Bare(), api.OK)
	wantCheck(t, "a parameter is given back", api.Func{Params: []int{api.Bool}, Blocks: []api.Block{{Term: sample.Return(0)}}}, api.OK)
	wantCheck(t, "nothing", api.Func{}, api.ErrForm)
	wantCheck(t, "no blocks", api.Func{Params: []int{api.Int}, Blocks: []api.Block{}}, api.ErrForm)
	wantCheck(t, "a block of nothing", api.Func{Blocks: []api.Block{{}}}, api.ErrForm)
}

func TestCheckParams(t *testing.T) {
	for _, n := range []int{0, 1, api.MaxParams - 1, api.MaxParams, api.MaxParams + 1, 100} {
		f := sample.Bare()
		for i := range n {
			f.Params = append(f.Params, 1+i%2)
		}
		wantCheck(t, fmt.Sprint(n, " parameters"), f, okOnly(n <= 16))
	}
	for _, typ := range sample.Edges() {
		for at := range api.MaxParams {
			f := sample.Bare()
			f.Params = make([]int, api.MaxParams)
			for i := range f.Params {
				f.Params[i] = api.Int
			}
			f.Params[at] = typ
			wantCheck(t, fmt.Sprint("parameter ", at, " of type ", typ), f, okOnly(typ == 1 || typ == 2))
		}
	}
}

func TestCheckArraysAndCells(t *testing.T) {
	for _, n := range sample.Edges() {
		f := sample.Bare()
		f.Arrays = n
		wantCheck(t, fmt.Sprint(n, " arrays"), f, okOnly(n >= 0 && n <= 8))
		f = sample.Bare()
		f.Cells = n
		wantCheck(t, fmt.Sprint(n, " cells"), f, okOnly(n >= 0 && n <= 64))
	}
}

func TestCheckBlocks(t *testing.T) {
	for _, n := range []int{1, 2, api.MaxBlocks - 1, api.MaxBlocks, api.MaxBlocks + 1, 5000} {
		f := api.Func{}
		for range n {
			f.Blocks = append(f.Blocks, api.Block{Term: sample.Trap(0)})
		}
		wantCheck(t, fmt.Sprint(n, " blocks"), f, okOnly(n <= 512))
	}
}

// heavy has so many phis, instructions and ends.
func heavy(phis, instrs, ends int) api.Func {
	f, id := api.Func{}, 0
	for range ends {
		f.Blocks = append(f.Blocks, api.Block{Term: sample.Trap(0)})
	}
	last := &f.Blocks[ends-1]
	for range phis {
		last.Phis = append(last.Phis, api.Phi{Id: id, Type: api.Int})
		id++
	}
	for range instrs {
		last.Code = append(last.Code, api.Instr{Op: api.OpConst, Id: id})
		id++
	}
	return f
}

func TestCheckCode(t *testing.T) {
	for _, c := range [][3]int{
		{0, 4095, 1}, {0, 4096, 1}, {0, 4094, 2}, {0, 4095, 2}, {4094, 0, 2}, {4095, 0, 2},
		{2000, 2094, 2}, {2000, 2095, 2}, {1000, 2584, 512}, {1000, 2585, 512}, {1001, 2584, 512}, {0, 9000, 1},
	} {
		sum := c[0] + c[1] + c[2]
		wantCheck(t, fmt.Sprint("phis, instructions, ends ", c), heavy(c[0], c[1], c[2]), okOnly(sum <= 4096))
	}
	f := sample.Bare()
	for range 4096 {
		f.Blocks[0].Code = append(f.Blocks[0].Code, api.Instr{Op: api.OpSet, Id: -1, Args: []int{0}})
	}
	f.Params, f.Cells = []int{api.Int}, 1
	wantCheck(t, "too many instructions that make nothing", f, api.ErrForm)
	f.Blocks[0].Code = f.Blocks[0].Code[1:]
	wantCheck(t, "as many as may be", f, api.OK)
}

func TestCheckIds(t *testing.T) {
	for _, params := range []int{0, 1, 2, 16} {
		for _, id := range append(sample.Edges(), params-1, params) {
			f := api.Func{Blocks: []api.Block{{Term: sample.Trap(0)}, {Term: sample.Trap(0)}}}
			for range params {
				f.Params = append(f.Params, api.Int)
			}
			want := okOnly(id >= params && id <= 1048575)
			f.Blocks[1].Code = []api.Instr{{Op: api.OpConst, Id: id}}
			wantCheck(t, fmt.Sprint("instruction ", id, " behind ", params, " parameters"), f, want)
			f.Blocks[1].Code = nil
			f.Blocks[1].Phis = []api.Phi{{Id: id, Type: api.Bool}}
			wantCheck(t, fmt.Sprint("phi ", id, " behind ", params, " parameters"), f, want)
		}
	}
	runTurns(t, []turn{
		{"two phis of a block", func(f *api.Func) { f.Blocks[1].Phis[1].Id = 23 }, api.ErrForm},
		{"a phi and an instruction", func(f *api.Func) { f.Blocks[1].Phis[1].Id = 25 }, api.ErrForm},
		{"two instructions of a block", func(f *api.Func) { f.Blocks[0].Code[5].Id = 2 }, api.ErrForm},
		{"instructions of two blocks", func(f *api.Func) { f.Blocks[2].Code[0].Id = 22 }, api.ErrForm},
		{"phis of two blocks", func(f *api.Func) { f.Blocks[6].Phis = []api.Phi{{Id: 24, Type: api.Bool}} }, api.ErrForm},
		{"another phi", func(f *api.Func) { f.Blocks[6].Phis = []api.Phi{{Id: 26, Type: api.Bool}} }, api.OK},
		{"a phi and a parameter", func(f *api.Func) { f.Blocks[1].Phis[1].Id = 1 }, api.ErrForm},
		{"an instruction and a parameter", func(f *api.Func) { f.Blocks[2].Code[0].Id = 0 }, api.ErrForm},
	})
}

func TestCheckPhis(t *testing.T) {
	phi := func(f *api.Func) *api.Phi { return &f.Blocks[1].Phis[0] }
	for _, typ := range sample.Edges() {
		f := sample.Rich()
		f.Blocks[6].Phis = []api.Phi{{Id: 26, Type: typ}}
		wantCheck(t, fmt.Sprint("phi of type ", typ), f, okOnly(typ == 1 || typ == 2))
	}
	for _, from := range sample.Edges() {
		f := sample.Rich()
		phi(&f).From[1] = from
		wantCheck(t, fmt.Sprint("phi from ", from), f, okOnly(from > 0 && from < 7))
		f = sample.Rich()
		phi(&f).From[0] = from
		wantCheck(t, fmt.Sprint("phi from ", from, " ahead"), f, okOnly(from >= 0 && from < 7 && from != 2))
	}
	list := func(from, vals []int) func(*api.Func) {
		return func(f *api.Func) { phi(f).From, phi(f).Vals = from, vals }
	}
	runTurns(t, []turn{
		{"from nowhere", list(nil, nil), api.OK},
		{"from nowhere, a value", list(nil, []int{2}), api.ErrForm},
		{"a value too few", list([]int{0, 2}, []int{2}), api.ErrForm},
		{"a value too many", list([]int{0, 2}, []int{2, 2, 2}), api.ErrForm},
		{"no values", list([]int{0, 2}, nil), api.ErrForm},
		{"from all", list([]int{6, 5, 4, 3, 2, 1, 0}, []int{2, 2, 2, 2, 2, 2, 2}), api.OK},
		{"twice, far apart", list([]int{6, 5, 4, 3, 2, 1, 6}, []int{2, 2, 2, 2, 2, 2, 2}), api.ErrForm},
		{"from more than there are", list([]int{0, 1, 2, 3, 4, 5, 6, 7}, make([]int, 8)), api.ErrForm},
		{"two phis from one block", func(f *api.Func) { f.Blocks[1].Phis[1].From = []int{2, 0} }, api.OK},
		{"a phi of itself", func(f *api.Func) { phi(f).Vals[1] = 23 }, api.OK},
	})
}

func TestCheckPhiFromTheLastBlock(t *testing.T) {
	f := api.Func{Params: []int{api.Int}}
	p := api.Phi{Id: 1, Type: api.Int}
	for b := range api.MaxBlocks {
		f.Blocks = append(f.Blocks, api.Block{Term: sample.Trap(0)})
		p.From, p.Vals = append(p.From, b), append(p.Vals, 0)
	}
	f.Blocks[1].Phis = []api.Phi{p}
	wantCheck(t, "from each of 512 blocks", f, api.OK)
	p.From[0] = 511
	wantCheck(t, "from 511 twice", f, api.ErrForm)
	p.From[0], p.From[511] = 0, 512
	wantCheck(t, "from 512", f, api.ErrForm)
}

func TestCheckOperations(t *testing.T) {
	known := map[int]bool{}
	for _, r := range table() {
		known[r.op] = true
		wantCheck(t, fmt.Sprint("operation ", r.op), single(r), api.OK)
		for n := range 6 {
			f := single(r)
			f.Blocks[0].Code[0].Args = make([]int, n)
			want := api.ErrForm
			if n == len(r.takes) {
				want = api.OK
				if r.takes != "" && r.takes[0] == 'B' { // value 0 is Int
					want = api.ErrType
				}
			}
			wantCheck(t, fmt.Sprint("operation ", r.op, " of ", n), f, want)
		}
	}
	for _, op := range append(sample.Edges(), 10, 11, 12, 13, 14, 15, 16, 17, 18, 19, 20, 21, 22, 23) {
		if known[op] {
			continue
		}
		for n := range 4 {
			for _, id := range []int{-1, 2} {
				f := sample.Bare()
				f.Params = []int{api.Int, api.Int}
				f.Blocks[0].Code = []api.Instr{{Op: op, Id: id, Args: make([]int, n)}}
				wantCheck(t, fmt.Sprint("operation ", op), f, api.ErrForm)
			}
		}
	}
}

func TestCheckN(t *testing.T) {
	for _, r := range table() {
		for _, n := range sample.Edges() {
			f := single(r)
			f.Blocks[0].Code[0].N = n
			good := map[string]bool{"any": true, "flag": n == 0 || n == 1, "none": n == 0, "array": n >= 0 && n < 2, "cell": n >= 0 && n < 3}[r.n]
			wantCheck(t, fmt.Sprint("operation ", r.op, ", N ", n), f, okOnly(good))
			f.Arrays, f.Cells, f.Blocks[0].Code[0].N = 8, 64, n
			good = map[string]bool{"any": true, "flag": n == 0 || n == 1, "none": n == 0, "array": n >= 0 && n < 8, "cell": n >= 0 && n < 64}[r.n]
			wantCheck(t, fmt.Sprint("operation ", r.op, ", N ", n, " of many"), f, okOnly(good))
		}
		f := single(r)
		f.Arrays, f.Cells = 0, 0
		wantCheck(t, fmt.Sprint("operation ", r.op, " without arrays and cells"), f, okOnly(r.n != "array" && r.n != "cell"))
	}
}

func TestCheckIdOfWhatMakesNothing(t *testing.T) {
	for _, r := range table() {
		if r.makes != "" {
			continue
		}
		for _, id := range sample.Edges() {
			f := single(r)
			f.Blocks[0].Code[0].Id = id
			wantCheck(t, fmt.Sprint("operation ", r.op, ", Id ", id), f, okOnly(id == -1))
		}
	}
}

func TestCheckEnds(t *testing.T) {
	end := func(term api.Term, want api.Errno) turn {
		return turn{fmt.Sprint(term), func(f *api.Func) { f.Blocks[3].Term = term }, want}
	}
	runTurns(t, []turn{
		end(api.Term{Op: api.Jump, Val: -1, To: []int{6}}, api.OK),
		end(api.Term{Op: api.Jump, Val: -1, To: []int{3}}, api.OK),
		end(api.Term{Op: api.Jump, Val: -1}, api.ErrForm),
		end(api.Term{Op: api.Jump, Val: -1, To: []int{1, 1}}, api.ErrForm),
		end(api.Term{Op: api.Jump, Val: 0, To: []int{1}}, api.ErrForm),
		end(api.Term{Op: api.Jump, Val: -2, To: []int{1}}, api.ErrForm),
		end(api.Term{Op: api.Jump, Val: -1, To: []int{1}, N: 1}, api.ErrForm),
		end(api.Term{Op: api.Jump, Val: -1, To: []int{1}, N: -1}, api.ErrForm),
		end(api.Term{Op: api.Branch, Val: 1, To: []int{4, 5}}, api.OK),
		end(api.Term{Op: api.Branch, Val: 1, To: []int{4, 4}}, api.OK),
		end(api.Term{Op: api.Branch, Val: 1}, api.ErrForm),
		end(api.Term{Op: api.Branch, Val: 1, To: []int{4}}, api.ErrForm),
		end(api.Term{Op: api.Branch, Val: 1, To: []int{4, 5, 6}}, api.ErrForm),
		end(api.Term{Op: api.Branch, Val: 1, To: []int{4, 5}, N: 1}, api.ErrForm),
		end(api.Term{Op: api.Branch, Val: 1, To: []int{4, 5}, N: -1}, api.ErrForm),
		end(api.Term{Op: api.Branch, Val: -1, To: []int{4, 5}}, api.ErrUse),
		end(api.Term{Op: api.Branch, Val: 0, To: []int{4, 5}}, api.ErrType),
		end(api.Term{Op: api.Return, Val: 0}, api.OK),
		end(api.Term{Op: api.Return, Val: 1}, api.OK),
		end(api.Term{Op: api.Return, Val: -1}, api.ErrUse),
		end(api.Term{Op: api.Return, Val: 0, To: []int{1}}, api.ErrForm),
		end(api.Term{Op: api.Return, Val: 0, N: 1}, api.ErrForm),
		end(api.Term{Op: api.Return, Val: 0, N: -1}, api.ErrForm),
		end(api.Term{Op: api.Trap, Val: -1, N: 0}, api.OK),
		end(api.Term{Op: api.Trap, Val: -1, N: math.MaxInt}, api.OK),
		end(api.Term{Op: api.Trap, Val: -1, N: -1}, api.ErrForm),
		end(api.Term{Op: api.Trap, Val: -1, N: math.MinInt}, api.ErrForm),
		end(api.Term{Op: api.Trap, Val: 0}, api.ErrForm),
		end(api.Term{Op: api.Trap, Val: -2}, api.ErrForm),
		end(api.Term{Op: api.Trap, Val: -1, To: []int{1}}, api.ErrForm),
	})
	for _, op := range sample.Edges() {
		if op >= api.Jump && op <= api.Trap {
			continue
		}
		for _, to := range [][]int{nil, {1}, {1, 1}} {
			f := sample.Rich()
			f.Blocks[3].Term = api.Term{Op: op, Val: -1, To: to}
			wantCheck(t, fmt.Sprint("end ", op, " to ", to), f, api.ErrForm)
		}
	}
}

func TestCheckWhereEndsGo(t *testing.T) {
	for _, to := range sample.Edges() {
		want := okOnly(to > 0 && to < 7)
		for at := range 7 {
			f := sample.Rich()
			f.Blocks[at].Term = sample.Jump(to)
			wantCheck(t, fmt.Sprint("block ", at, " jumps to ", to), f, want)
			f.Blocks[at].Term = sample.Branch(1, to, 2)
			wantCheck(t, fmt.Sprint("block ", at, " branches to ", to, " and 2"), f, want)
			f.Blocks[at].Term = sample.Branch(1, 2, to)
			wantCheck(t, fmt.Sprint("block ", at, " branches to 2 and ", to), f, want)
		}
	}
}

func TestCheckBlockZeroHasNoPhis(t *testing.T) {
	f := sample.Rich()
	f.Blocks[0].Phis = []api.Phi{{Id: 26, Type: api.Int}}
	wantCheck(t, "a phi from nowhere in block 0", f, api.ErrForm)
	f.Blocks[0].Phis = []api.Phi{{Id: 26, Type: api.Int, From: []int{2}, Vals: []int{0}}}
	wantCheck(t, "a phi in block 0", f, api.ErrForm)
}

func TestCheckUses(t *testing.T) {
	for _, id := range append(sample.Edges(), 27, 1000) {
		if id >= 0 && id <= 25 {
			continue
		}
		runTurns(t, []turn{
			{fmt.Sprint("phi of ", id), func(f *api.Func) { f.Blocks[1].Phis[0].Vals[0] = id }, api.ErrUse},
			{fmt.Sprint("phi of ", id, " last"), func(f *api.Func) { f.Blocks[1].Phis[1].Vals[1] = id }, api.ErrUse},
			{fmt.Sprint("branch on ", id), func(f *api.Func) { f.Blocks[1].Term.Val = id }, api.ErrUse},
			{fmt.Sprint("return of ", id), func(f *api.Func) { f.Blocks[4].Term.Val = id }, api.ErrUse},
			{fmt.Sprint("return of ", id, ", come to by nothing"), func(f *api.Func) { f.Blocks[6].Term.Val = id }, api.ErrUse},
		})
		for _, r := range table() {
			for at := range r.takes {
				f := single(r)
				f.Blocks[0].Code[0].Args[at] = id
				wantCheck(t, fmt.Sprint("operation ", r.op, ", argument ", at, " is ", id), f, api.ErrUse)
			}
		}
	}
	runTurns(t, []turn{
		{"a value that has another number now", func(f *api.Func) { f.Blocks[2].Code[0].Id = 26 }, api.ErrUse},
		{"a phi that has another number now", func(f *api.Func) { f.Blocks[1].Phis[1].Id = 26 }, api.ErrUse},
		{"a parameter less", func(f *api.Func) { f.Params = f.Params[:1] }, api.ErrUse},
	})
}

func TestCheckTypes(t *testing.T) {
	for _, r := range table() {
		for at, c := range r.takes {
			f := single(r)
			f.Blocks[0].Code[0].Args[at] = map[rune]int{'I': 1, 'B': 0}[c]
			wantCheck(t, fmt.Sprint("operation ", r.op, ", argument ", at, " of the other type"), f, api.ErrType)
		}
	}
	runTurns(t, []turn{
		{"phi of Int, Bool first", func(f *api.Func) { f.Blocks[1].Phis[0].Vals[0] = 1 }, api.ErrType},
		{"phi of Int, Bool last", func(f *api.Func) { f.Blocks[1].Phis[0].Vals[1] = 24 }, api.ErrType},
		{"phi of Bool, Int first", func(f *api.Func) { f.Blocks[1].Phis[1].Vals[0] = 0 }, api.ErrType},
		{"phi of Bool, Int last", func(f *api.Func) { f.Blocks[1].Phis[1].Vals[1] = 23 }, api.ErrType},
		{"branch on Int", func(f *api.Func) { f.Blocks[1].Term.Val = 23 }, api.ErrType},
		{"branch on a parameter of Int", func(f *api.Func) { f.Blocks[3].Term.Val = 0 }, api.ErrType},
		{"branch on a parameter of Bool", func(f *api.Func) { f.Blocks[3].Term.Val = 1 }, api.OK},
		{"parameters the other way round", func(f *api.Func) { f.Params[0], f.Params[1] = 2, 1 }, api.ErrType},
	})
	for id := range 26 {
		f := sample.Rich()
		f.Blocks[4].Term.Val = id
		wantCheck(t, fmt.Sprint("return of ", id), f, api.OK)
	}
}

// TestCheckMakes holds the type of what each operation makes against a branch, which takes Bool alone.
func TestCheckMakes(t *testing.T) {
	for _, r := range table() {
		if r.makes == "" {
			continue
		}
		f := single(r)
		f.Blocks[0].Term = sample.Branch(2, 1, 1)
		f.Blocks = append(f.Blocks, api.Block{Term: sample.Trap(0)})
		want := api.OK
		if r.makes == "I" {
			want = api.ErrType
		}
		wantCheck(t, fmt.Sprint("branch on operation ", r.op), f, want)
	}
}

// TestCheckUsesAheadOfDefinitions: where a value is made does not matter to form.
func TestCheckUsesAheadOfDefinitions(t *testing.T) {
	runTurns(t, []turn{
		{"an instruction of itself", func(f *api.Func) { f.Blocks[2].Code[0].Args[0] = 25 }, api.OK},
		{"of a value of a later block", func(f *api.Func) { f.Blocks[0].Code[2].Args[0] = 25 }, api.OK},
		{"of a phi, in block 0", func(f *api.Func) { f.Blocks[0].Code[2].Args[1] = 23 }, api.OK},
	})
}

func TestCheckWhichErrorFirst(t *testing.T) {
	badUse := func(f *api.Func) { f.Blocks[0].Code[2].Args[0] = 99 }
	lateUse := func(f *api.Func) { f.Blocks[6].Term.Val = -1 }
	badType := func(f *api.Func) { f.Blocks[0].Code[2].Args[1] = 1 }
	lateType := func(f *api.Func) { f.Blocks[3].Term.Val = 0 }
	badForm := func(f *api.Func) { f.Params[1] = 3 }
	lateForm := func(f *api.Func) { f.Blocks[6].Term.N = 1 }
	both := func(a, b func(*api.Func)) func(*api.Func) {
		return func(f *api.Func) { a(f); b(f) }
	}
	runTurns(t, []turn{
		{"a use", badUse, api.ErrUse},
		{"a late use", lateUse, api.ErrUse},
		{"a type", badType, api.ErrType},
		{"a late type", lateType, api.ErrType},
		{"the form", badForm, api.ErrForm},
		{"the form, late", lateForm, api.ErrForm},
		{"a type, then a use", both(badType, lateUse), api.ErrUse},
		{"a use, then a type", both(badUse, lateType), api.ErrUse},
		{"both in one instruction", both(badUse, badType), api.ErrUse},
		{"a use, then the form", both(badUse, lateForm), api.ErrForm},
		{"a type, then the form", both(badType, lateForm), api.ErrForm},
		{"the form, then a use", both(badForm, lateUse), api.ErrForm},
		{"the form, then a type", both(badForm, lateType), api.ErrForm},
		{"all three", both(badType, both(lateUse, lateForm)), api.ErrForm},
		{"a branch on nothing with a wrong N", func(f *api.Func) { f.Blocks[3].Term.Val, f.Blocks[3].Term.N = -1, 1 }, api.ErrForm},
		{"a phi: no value, then a wrong type", func(f *api.Func) { f.Blocks[1].Phis[0].Vals = []int{99, 1} }, api.ErrUse},
		{"a phi: a wrong type, then no value", func(f *api.Func) { f.Blocks[1].Phis[0].Vals = []int{1, 99} }, api.ErrUse},
	})
}
