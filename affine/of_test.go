package affine_test

import (
	"fmt"
	"math"
	"testing"

	"strake/affine"
	"strake/api"
	"strake/interp"
	"strake/ir"
	"strake/sample"
	"strake/values"
)

// wantLast reads a block of two numbers, v0 and v1, and a flag, v2, and asks for the sum of v9.
func wantLast(t *testing.T, what string, want api.Sum, lines ...string) {
	t.Helper()
	all := append([]string{"func int int bool arrays 2 cells 2", "b0:"}, lines...)
	wantOf(t, what, sample.Read(t, append(all, "return v9")...), 9, want, api.OK)
}

// TestOfOperations (P14.2) has what makes a sum.
func TestOfOperations(t *testing.T) {
	wantLast(t, "a number", sumOf(5), "v9 = const 5")
	wantLast(t, "the least number", sumOf(math.MinInt), "v9 = const -9223372036854775808")
	wantLast(t, "0", sumOf(0), "v9 = const 0")
	wantLast(t, "two values", sumOf(0, 0, 1, 1, 1), "v9 = add v1 v0")
	wantLast(t, "a value twice", sumOf(0, 1, 2), "v9 = add v1 v1")
	wantLast(t, "a difference", sumOf(0, 0, -1, 1, 1), "v9 = sub v1 v0")
	wantLast(t, "a value less itself", sumOf(0), "v9 = sub v1 v1")
	wantLast(t, "a number and a value", sumOf(7, 1, 1), "v3 = const 7", "v9 = add v3 v1")
	wantLast(t, "a value and a number", sumOf(7, 1, 1), "v3 = const 7", "v9 = add v1 v3")
	wantLast(t, "a number less a value", sumOf(7, 1, -1), "v3 = const 7", "v9 = sub v3 v1")
	wantLast(t, "a value less a number", sumOf(-7, 1, 1), "v3 = const 7", "v9 = sub v1 v3")
	wantLast(t, "numbers that wrap", sumOf(math.MinInt), "v3 = const 9223372036854775807", "v4 = const 1", "v9 = add v3 v4")
	wantLast(t, "numbers that wrap the other way", sumOf(math.MaxInt), "v3 = const -9223372036854775808", "v4 = const 1", "v9 = sub v3 v4")
	wantLast(t, "a product of numbers", sumOf(-21), "v3 = const 7", "v4 = const -3", "v9 = mul v3 v4")
	wantLast(t, "a number times a value", sumOf(0, 1, 7), "v3 = const 7", "v9 = mul v3 v1")
	wantLast(t, "a value times a number", sumOf(0, 1, 7), "v3 = const 7", "v9 = mul v1 v3")
	wantLast(t, "a value 0 times", sumOf(0), "v3 = const 0", "v9 = mul v1 v3")
	wantLast(t, "a sum times a number", sumOf(6, 0, 2, 1, -2), "v3 = const 3", "v4 = add v0 v3", "v5 = sub v4 v1", "v6 = const 2", "v9 = mul v5 v6")
	wantLast(t, "a number that is told by parts that vanish, times a sum", sumOf(9, 0, 3), "v3 = const 3", "v4 = add v0 v3", "v5 = sub v4 v0", "v9 = mul v5 v4")
	wantLast(t, "a value moved up", sumOf(0, 1, 8), "v3 = const 3", "v9 = shl v1 v3")
	wantLast(t, "a sum moved up", sumOf(12, 0, 4, 1, -4), "v3 = const 3", "v4 = add v0 v3", "v5 = sub v4 v1", "v6 = const 2", "v9 = shl v5 v6")
	wantLast(t, "a number moved up", sumOf(20), "v3 = const 5", "v4 = const 2", "v9 = shl v3 v4")
	wantLast(t, "a value moved up by a number that is told by parts that vanish", sumOf(0, 0, 8), "v3 = const 3", "v4 = add v1 v3", "v5 = sub v4 v1", "v9 = shl v0 v5")
}

// TestOfShifts (P14.2): how far something is moved up is a number modulo 64.
func TestOfShifts(t *testing.T) {
	for _, by := range append(sample.Edges(), 32, 61, 62, 66, 127, 128, -63, -64, -65) {
		times := int(uint64(1) << (uint64(by) % 64))
		wantLast(t, fmt.Sprint("a value moved up by ", by), sumOf(0, 1, times), fmt.Sprint("v3 = const ", by), "v9 = shl v1 v3")
	}
	wantLast(t, "a part that is moved out", sumOf(0, 0, math.MinInt), "v3 = const 62", "v4 = const 2", "v5 = mul v0 v4", "v6 = const 4", "v7 = mul v1 v6", "v8 = add v5 v7", "v9 = shl v8 v3")
	wantLast(t, "all moved out", sumOf(0), "v3 = const 63", "v4 = add v1 v1", "v9 = shl v4 v3")
	wantLast(t, "a value 2^64 times", sumOf(0), "v3 = const 32", "v4 = shl v1 v3", "v9 = shl v4 v3")
}

// TestOfItself (P14.2) has all that is a value itself, whatever it is made of.
func TestOfItself(t *testing.T) {
	itself := func(what string, lines ...string) {
		t.Helper()
		wantLast(t, what, sumOf(0, 9, 1), lines...)
	}
	itself("a product of values", "v9 = mul v0 v1")
	itself("a square", "v9 = mul v0 v0")
	itself("a product of sums", "v3 = const 1", "v4 = add v0 v3", "v5 = sub v0 v3", "v9 = mul v4 v5")
	itself("a value moved up by a value", "v9 = shl v0 v1")
	itself("a number moved up by a value", "v3 = const 1", "v9 = shl v3 v1")
	itself("0 moved up by a value", "v3 = const 0", "v9 = shl v3 v1")
	for _, name := range []string{"and", "or", "xor", "shr", "div", "rem"} {
		itself(name, "v9 = "+name+" v0 v1")
		itself(name+" of numbers", "v3 = const 12", "v4 = const 2", "v9 = "+name+" v3 v4")
		itself(name+" of a value and 0", "v3 = const 0", "v9 = "+name+" v0 v3")
	}
	itself("a choice", "v9 = select v2 v0 v1")
	itself("a choice of one", "v9 = select v2 v0 v0")
	itself("a choice of a number", "v3 = const 5", "v9 = select v2 v3 v3")
	itself("a length", "v9 = len 1")
	itself("a look at an array", "v3 = const 0", "v9 = load 0 v3")
	itself("a look that does not count", "v3 = const 0", "v9 = fetch 1 v3")
	itself("a cell", "v9 = get 1")
	itself("a cell that was set to a number", "v3 = const 5", "set 1 v3", "v9 = get 1")
	wantOf(t, "a parameter", sample.Whole(), 0, sumOf(0, 0, 1), api.OK)
	wantOf(t, "a phi", sample.Whole(), 23, sumOf(0, 23, 1), api.OK)
}

// TestOfUsesOfItself: what is made of a value that is itself has that value in it.
func TestOfUsesOfItself(t *testing.T) {
	wantLast(t, "twice a product", sumOf(1, 0, -1, 4, 2), "v3 = const 1", "v4 = mul v0 v1", "v5 = add v4 v4", "v6 = sub v5 v0", "v9 = add v6 v3")
	wantLast(t, "a product less the same anew", sumOf(0, 4, 1, 5, -1), "v4 = mul v0 v1", "v5 = mul v0 v1", "v9 = sub v4 v5")
	wantLast(t, "a product less itself, times a value", sumOf(0), "v4 = mul v0 v1", "v5 = sub v4 v4", "v9 = mul v5 v1")
	wantLast(t, "a cell twice", sumOf(0, 4, 1, 5, 1), "v4 = get 0", "v5 = get 0", "v9 = add v5 v4")
}

// TestOfLoop (P14.2): a phi is itself, and what is made of it in other blocks is a sum with it.
func TestOfLoop(t *testing.T) {
	f := sample.Read(t, "func int bool arrays 0 cells 0", "b0:", "v2 = const 4", "v3 = const 3", "jump b1",
		"b1:", "v4 = phi int b0 v2 b2 v7", "v5 = phi int b2 v5 b0 v2", "v6 = mul v4 v3", "branch v1 b2 b3",
		"b2:", "v7 = sub v4 v2", "v8 = add v6 v7", "v9 = add v8 v5", "jump b1",
		"b3:", "v10 = phi int b1 v4", "v11 = shl v10 v3", "v12 = add v11 v6", "return v12")
	for id, want := range map[int]api.Sum{
		4: sumOf(0, 4, 1), 5: sumOf(0, 5, 1), 6: sumOf(0, 4, 3), 7: sumOf(-4, 4, 1), 8: sumOf(-4, 4, 4), 9: sumOf(-4, 4, 4, 5, 1),
		10: sumOf(0, 10, 1), 11: sumOf(0, 10, 8), 12: sumOf(0, 4, 3, 10, 8),
	} {
		wantOf(t, "a loop", f, id, want, api.OK)
	}
	back := sample.Read(t, "func int arrays 0 cells 0", "b0:", "v9 = const 4", "jump b2",
		"b1:", "v5 = phi int b2 v9", "v3 = add v8 v9", "v4 = add v3 v5", "return v4", "b2:", "v8 = sub v0 v9", "jump b1")
	wantOf(t, "a block ahead of one that it takes values from", back, 3, sumOf(0, 0, 1), api.OK)
	wantOf(t, "a phi of a number", back, 4, sumOf(0, 0, 1, 5, 1), api.OK)
}

// TestOfErrors (P14.2): a flag has no sum, and what is no value neither.
func TestOfErrors(t *testing.T) {
	f := sample.Whole()
	for _, id := range []int{1, 3, 14, 15, 16, 17, 24} {
		wantOf(t, "whole", f, id, api.Sum{}, api.ErrType)
	}
	for _, id := range []int{math.MinInt, -2, -1, 26, 1000, api.MaxId - 1, api.MaxId, math.MaxInt} {
		wantOf(t, "whole", f, id, api.Sum{}, api.ErrNone)
	}
	wantOf(t, "bare", sample.Bare(), 0, api.Sum{}, api.ErrNone)
}

// line is one block with so many cells, from value 0 on.
func line(cells int) api.Func {
	f := api.Func{Cells: 1, Blocks: []api.Block{{Term: sample.Trap(0)}}}
	for id := range cells {
		add(f, api.OpGet, id)
	}
	return f
}

func add(f api.Func, op, id int, args ...int) {
	f.Blocks[0].Code = append(f.Blocks[0].Code, api.Instr{Op: op, Id: id, Args: args})
}

// wide adds up so many cells, and takes some of them away again, one by one: value 1001 is the first two, the others follow
// it, and value 2000 is all less the first.
func wide(cells, less int) api.Func {
	f := line(cells)
	last := 0
	for id := 1; id < cells; id++ {
		add(f, api.OpAdd, 1000+id, last, id)
		last = 1000 + id
	}
	for id := range less {
		add(f, api.OpSub, 2000+id, last, id)
		last = 2000 + id
	}
	return f
}

// TestOfMany (P14.2): where a sum would have too many parts, the value is itself, and what is made of it has it in it.
func TestOfMany(t *testing.T) {
	f := wide(70, 6)
	cells := func(first, behind int) []int {
		var parts []int
		for id := first; id < behind; id++ {
			parts = append(parts, id, 1)
		}
		return parts
	}
	wantOf(t, "two cells", f, 1001, sumOf(0, 0, 1, 1, 1), api.OK)
	wantOf(t, "64 cells", f, 1063, sumOf(0, cells(0, 64)...), api.OK)
	wantOf(t, "65 cells", f, 1064, sumOf(0, 1064, 1), api.OK)
	wantOf(t, "66 cells", f, 1065, sumOf(0, 65, 1, 1064, 1), api.OK)
	wantOf(t, "70 cells", f, 1069, sumOf(0, append(cells(65, 70), 1064, 1)...), api.OK)
	wantOf(t, "70 cells, less 1", f, 2000, sumOf(0, append(append([]int{0, -1}, cells(65, 70)...), 1064, 1)...), api.OK)
	wantPlain(t, "70 cells", f)
	wantPlain(t, "300 cells", wide(300, 300))
	wantOf(t, "64 cells, less 1", wide(64, 64), 2000, sumOf(0, cells(1, 64)...), api.OK)
	wantOf(t, "64 cells, less all", wide(64, 64), 2063, sumOf(0), api.OK)
}

// TestOfManyTogether (P14.2): parts are counted behind adding: two sums that share some have fewer.
func TestOfManyTogether(t *testing.T) {
	f := wide(65, 0)
	add(f, api.OpAdd, 3000, 1063, 1063)
	add(f, api.OpSub, 3001, 1063, 1062)
	add(f, api.OpSub, 3002, 64, 63)
	add(f, api.OpAdd, 3003, 1063, 3002)
	add(f, api.OpSub, 3004, 64, 1063)
	add(f, api.OpMul, 3005, 3004, 3001)
	twice, swapped := sumOf(0), sumOf(0)
	for id := range 64 {
		twice.Parts = append(twice.Parts, api.Part{Id: id, Coef: 2})
		swapped.Parts = append(swapped.Parts, api.Part{Id: id + id/63, Coef: 1})
	}
	wantOf(t, "64 parts twice", f, 3000, twice, api.OK)
	wantOf(t, "64 parts less 63", f, 3001, sumOf(0, 63, 1), api.OK)
	wantOf(t, "64 parts, and one less one of them", f, 3003, swapped, api.OK)
	wantOf(t, "one less 64 parts", f, 3004, sumOf(0, 3004, 1), api.OK)
	wantOf(t, "a product of sums", f, 3005, sumOf(0, 3005, 1), api.OK)
	wantPlain(t, "together", f)
}

// TestOfLong has as much code as there may be: values that use one another, and each twice.
func TestOfLong(t *testing.T) {
	for _, op := range []int{api.OpAdd, api.OpSub, api.OpMul, api.OpShl} {
		for _, second := range []int{0, -1} {
			f := api.Func{Params: []int{api.Int}, Blocks: []api.Block{{Term: sample.Trap(0)}}}
			f.Blocks[0].Code = []api.Instr{{Op: api.OpConst, Id: 1, N: 1}, {Op: api.OpAdd, Id: 2, Args: []int{0, 1}}}
			for id := 3; id < api.MaxCode; id++ {
				args := []int{id - 1, id - 1}
				if second == 0 {
					args[1] = id % 2
				}
				add(f, op, id, args...)
			}
			sums := plainSums(f)
			for _, id := range []int{2, 3, 4, 5, 63, 64, 65, 66, 67, 1000, api.MaxCode - 1} {
				wantOf(t, fmt.Sprint("operation ", op), f, id, sums[id].sum(), api.OK)
			}
		}
	}
}

// TestOfPlain (P14.2) holds functions of all operations against the plain words.
func TestOfPlain(t *testing.T) {
	wantPlain(t, "whole", sample.Whole())
	wantPlain(t, "bare", sample.Bare())
	wantPlain(t, "walking", sample.Walking(sample.Deep(t)))
	parts, numbers := 0, 0
	ask := func(what string, f api.Func) {
		wantPlain(t, what, f)
		for _, sum := range plainSums(f) {
			if len(sum.coefs) > 1 {
				parts++
			} else if len(sum.coefs) == 0 {
				numbers++
			}
		}
	}
	for seed := range 120 {
		ask(fmt.Sprint("busy ", seed), sample.Busy(2+seed%30, seed))
		ask(fmt.Sprint("summing ", seed), summing(60, seed))
	}
	if parts < 1000 || numbers < 1000 {
		t.Errorf("just %d sums of more than one part, and %d numbers", parts, numbers)
	}
}

// summing is one block with so many operations, most of which make sums, of numbers of all kinds.
func summing(ops, seed int) api.Func {
	next := sample.Numbering(seed)
	numbers := append(sample.Edges(), 1<<62, 1<<32, 0x5555555555555555)
	f := api.Func{Params: []int{api.Int, api.Int, api.Bool}, Cells: 1, Blocks: []api.Block{{}}}
	ids := []int{0, 1}
	for id := 3; id < 3+ops; id++ {
		in := api.Instr{Op: api.OpConst, Id: id}
		switch pick := next(12); {
		case pick < 2:
			in.N = numbers[next(len(numbers))]
		case pick == 2:
			in.Op = api.OpXor
		default:
			in.Op = []int{api.OpAdd, api.OpSub, api.OpMul, api.OpShl}[pick%4]
		}
		if in.Op != api.OpConst {
			in.Args = []int{ids[next(len(ids))], ids[len(ids)-1-next(min(8, len(ids)))]}
		}
		f.Blocks[0].Code = append(f.Blocks[0].Code, in)
		ids = append(ids, id)
	}
	f.Blocks[0].Term = sample.Return(ids[len(ids)-1])
	return f
}

// TestOfIsExact: what a value is, its sum is.
func TestOfIsExact(t *testing.T) {
	for seed := range 200 {
		f := summing(60, seed)
		ids, vals := []int{0, 1, 2}, []int{7 - seed*1234567890123, 1<<62 + seed, 0}
		for _, in := range f.Blocks[0].Code {
			value := in.N
			if in.Op != api.OpConst {
				value, _ = interp.Calc(in.Op, vals[in.Args[0]], vals[in.Args[1]])
			}
			ids, vals = append(ids, in.Id), append(vals, value)
			s, _ := affine.Of(f, in.Id)
			if got, e := affine.At(s, ids, vals); got != value || e != api.OK {
				t.Errorf("seed %d, value %d: %d, %d, want %d", seed, in.Id, got, e, value)
			}
		}
	}
}

// doubting tells nothing but of each value that an instruction makes how far it is from its sum, at its block's end.
func doubting(f api.Func) api.Func {
	next := values.FirstNew(f)
	sums := map[int]api.Sum{}
	for _, b := range f.Blocks {
		for _, in := range b.Code {
			if s, e := affine.Of(f, in.Id); e == api.OK {
				sums[in.Id] = s
			}
		}
	}
	for b := range f.Blocks {
		var code []api.Instr
		add := func(op, n int, args ...int) int {
			code = append(code, api.Instr{Op: op, Id: next, Args: args, N: n})
			next++
			return next - 1
		}
		for _, in := range f.Blocks[b].Code {
			if in.Op != api.OpOut {
				code = append(code, in)
			}
		}
		for _, in := range f.Blocks[b].Code {
			s, ok := sums[in.Id]
			if !ok {
				continue
			}
			total := add(api.OpConst, s.Const)
			for _, p := range s.Parts {
				total = add(api.OpAdd, 0, total, add(api.OpMul, 0, p.Id, add(api.OpConst, p.Coef)))
			}
			code = append(code, api.Instr{Op: api.OpOut, Id: -1, Args: []int{add(api.OpSub, 0, total, in.Id)}})
		}
		f.Blocks[b].Code = code
	}
	return f
}

// TestOfInRuns: in runs, too, whatever loops they go through, each value is its sum.
func TestOfInRuns(t *testing.T) {
	told := 0
	for seed := range 200 {
		f := doubting(sample.Busy(2+seed%12, seed))
		if e := ir.Check(f); e != api.OK {
			t.Fatalf("seed %d: error %d", seed, e)
		}
		for _, in := range sample.Inputs() {
			for at, far := range interp.Run(f, in, 20000).Out {
				told++
				if far != 0 {
					t.Errorf("seed %d: what is told as number %d is %d from its sum", seed, at, far)
				}
			}
		}
	}
	if told < 10000 {
		t.Errorf("just %d values were told", told)
	}
}
