package interp_test

import (
	"math/big"

	"strake/api"
)

// whole is 2^64.
var whole = new(big.Int).Lsh(big.NewInt(1), 64)

func signed(n int) *big.Int { return big.NewInt(int64(n)) }

// unsigned is a number without its sign: from 0 to 2^64 - 1.
func unsigned(n int) *big.Int { return new(big.Int).Mod(signed(n), whole) }

// wrapped is the number of 64 bits with a sign that stands for one of any size.
func wrapped(n *big.Int) int { return int(new(big.Int).Mod(n, whole).Uint64()) }

func plainFlag(holds bool) int {
	if holds {
		return 1
	}
	return 0
}

// bitwise goes over the bits of two numbers, one by one.
func bitwise(a, b int, bit func(x, y uint) uint) int {
	x, y, made := unsigned(a), unsigned(b), new(big.Int)
	for i := range 64 {
		made.SetBit(made, i, bit(x.Bit(i), y.Bit(i)))
	}
	return wrapped(made)
}

// shifting is 2 to a number modulo 64.
func shifting(n int) *big.Int {
	by := new(big.Int).Mod(signed(n), big.NewInt(64))
	return new(big.Int).Lsh(big.NewInt(1), uint(by.Int64()))
}

// plainCalc tells by numbers of any size what an operation makes; not: it divides by 0.
func plainCalc(op int, args []int) (made int, ok bool) {
	switch op {
	case api.OpNot:
		return plainFlag(args[0] == 0), true
	case api.OpSelect:
		if args[0] == 0 {
			return args[2], true
		}
		return args[1], true
	}
	a, b := args[0], args[1]
	switch op {
	case api.OpAdd:
		return wrapped(new(big.Int).Add(signed(a), signed(b))), true
	case api.OpSub:
		return wrapped(new(big.Int).Sub(signed(a), signed(b))), true
	case api.OpMul:
		return wrapped(new(big.Int).Mul(signed(a), signed(b))), true
	case api.OpAnd:
		return bitwise(a, b, func(x, y uint) uint { return x * y }), true
	case api.OpOr:
		return bitwise(a, b, func(x, y uint) uint { return max(x, y) }), true
	case api.OpXor:
		return bitwise(a, b, func(x, y uint) uint { return (x + y) % 2 }), true
	case api.OpShl:
		return wrapped(new(big.Int).Mul(unsigned(a), shifting(b))), true
	case api.OpShr:
		return wrapped(new(big.Int).Div(unsigned(a), shifting(b))), true
	case api.OpEq:
		return plainFlag(signed(a).Cmp(signed(b)) == 0), true
	case api.OpLt:
		return plainFlag(signed(a).Cmp(signed(b)) < 0), true
	case api.OpBelow:
		return plainFlag(unsigned(a).Cmp(unsigned(b)) < 0), true
	}
	if b == 0 {
		return 0, false
	}
	if op == api.OpDiv {
		return wrapped(new(big.Int).Quo(signed(a), signed(b))), true
	}
	return wrapped(new(big.Int).Rem(signed(a), signed(b))), true
}

// plain runs a strict function by the chapter's words alone, a step at a time.
type plain struct {
	f         api.Func
	values    map[int]int
	cells     map[int]int
	block, at int
	t         api.Trace
}

func plainRun(f api.Func, in api.Input, fuel int) api.Trace {
	p := plain{f: f, values: map[int]int{}, cells: map[int]int{}}
	p.t.Visits = make([]int, len(f.Blocks))
	for i, typ := range f.Params {
		p.values[i] = 0
		if i < len(in.Args) {
			p.values[i] = in.Args[i]
		}
		if typ == api.Bool {
			p.values[i] = plainFlag(p.values[i] != 0)
		}
	}
	for i := range f.Arrays {
		p.t.Arrays = append(p.t.Arrays, []int{})
		for k := 0; i < len(in.Arrays) && k < len(in.Arrays[i]) && k < 4096; k++ {
			p.t.Arrays[i] = append(p.t.Arrays[i], in.Arrays[i][k])
		}
	}
	p.come(-1, 0)
	for p.t.End == 0 {
		if p.t.Steps == fuel || p.t.Steps == 200000 {
			p.t.End = api.NoFuel
			break
		}
		p.t.Steps++
		if code := f.Blocks[p.block].Code; p.at < len(code) {
			p.instr(code[p.at])
			p.at++
		} else {
			p.term(f.Blocks[p.block].Term)
		}
	}
	return p.t
}

func (p *plain) come(from, to int) {
	p.block, p.at = to, 0
	p.t.Visits[to]++
	got := map[int]int{}
	for _, phi := range p.f.Blocks[to].Phis {
		for i := range phi.From {
			if phi.From[i] == from {
				got[phi.Id] = p.values[phi.Vals[i]]
			}
		}
	}
	for id, n := range got {
		p.values[id] = n
	}
}

func (p *plain) term(t api.Term) {
	switch {
	case t.Op == api.Return:
		p.t.End, p.t.Value = api.Returned, p.values[t.Val]
	case t.Op == api.Trap:
		p.t.End, p.t.Trap = api.Trapped, t.N
	case t.Op == api.Branch && p.values[t.Val] == 0:
		p.come(p.block, t.To[1])
	default:
		p.come(p.block, t.To[0])
	}
}

func (p *plain) instr(in api.Instr) {
	var args []int
	for _, id := range in.Args {
		args = append(args, p.values[id])
	}
	switch in.Op {
	case api.OpConst, api.OpFlag:
		p.values[in.Id] = in.N
	case api.OpLen:
		p.values[in.Id] = len(p.t.Arrays[in.N])
	case api.OpLoad, api.OpFetch, api.OpStore, api.OpPut:
		p.element(in, args)
	case api.OpOut:
		if len(p.t.Out) == 4096 {
			p.t.End = api.OutFull
		} else {
			p.t.Out = append(p.t.Out, args[0])
		}
	case api.OpGet:
		p.values[in.Id] = p.cells[in.N]
	case api.OpSet:
		p.cells[in.N] = args[0]
	default:
		made, ok := plainCalc(in.Op, args)
		if !ok {
			p.t.End, p.t.Trap = api.Trapped, -1
		} else {
			p.values[in.Id] = made
		}
	}
}

func (p *plain) element(in api.Instr, args []int) {
	array, looks := p.t.Arrays[in.N], in.Op == api.OpLoad || in.Op == api.OpStore
	if looks {
		p.t.Checks++
	}
	outside := args[0] < 0 || args[0] >= len(array)
	switch {
	case outside && looks:
		p.t.End, p.t.Trap = api.Trapped, -2
	case outside:
		p.t.End = api.Wild
	case len(args) == 2:
		array[args[0]] = args[1]
	default:
		p.values[in.Id] = array[args[0]]
	}
}
