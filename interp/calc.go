package interp

import "strake/api"

// number has methods for what operations make of two numbers.
type number int

func (a number) add(b number) number { return a + b }
func (a number) sub(b number) number { return a - b }
func (a number) mul(b number) number { return a * b }
func (a number) and(b number) number { return a & b }
func (a number) or(b number) number  { return a | b }
func (a number) xor(b number) number { return a ^ b }

// shl and shr take the number modulo 64 first: Go's shifts by more than that push all out.
func (a number) shl(b number) number { return a << (uint(b) % 64) }
func (a number) shr(b number) number { return number(uint(a) >> (uint(b) % 64)) }

// div and rem are not for a division by 0.
func (a number) div(b number) number { return a / b }
func (a number) rem(b number) number { return a % b }

func (a number) eq(b number) number    { return flagOf(a == b) }
func (a number) lt(b number) number    { return flagOf(a < b) }
func (a number) below(b number) number { return flagOf(uint(a) < uint(b)) }

func flagOf(holds bool) number {
	if holds {
		return 1
	}
	return 0
}

// operations are by their Op what they make of two numbers.
type operations map[int]func(a, b number) number

func pairs() operations {
	return operations{
		api.OpAdd:   number.add,
		api.OpSub:   number.sub,
		api.OpMul:   number.mul,
		api.OpAnd:   number.and,
		api.OpOr:    number.or,
		api.OpXor:   number.xor,
		api.OpShl:   number.shl,
		api.OpShr:   number.shr,
		api.OpDiv:   number.div,
		api.OpRem:   number.rem,
		api.OpEq:    number.eq,
		api.OpLt:    number.lt,
		api.OpBelow: number.below,
	}
}

// calc is for pure operations with as many arguments as they take, and not for a division by 0. Each flag but 0 is 1.
func (o operations) calc(op int, args []int) int {
	switch {
	case op == api.OpNot:
		return int(flagOf(args[0] == 0))
	case op == api.OpSelect && args[0] != 0:
		return args[1]
	case op == api.OpSelect:
		return args[2]
	}
	return int(o[op](number(args[0]), number(args[1])))
}

// isPure: does an operation make something of its arguments alone?
func isPure(op int) bool { return api.OpAdd <= op && op <= api.OpSelect }

func dividesByZero(op int, args []int) bool {
	return (op == api.OpDiv || op == api.OpRem) && args[1] == 0
}
