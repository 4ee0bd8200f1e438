// Package ir looks at functions: whether they are formed, and which values they have.
package ir

import (
	"maps"
	"slices"

	"strake/api"
)

// Check: OK, if a function is formed, and its values have types that fit.
func Check(f api.Func) api.Errno {
	_, e := lookAt(f)
	return e
}

// Ids: all values that are defined, rising.
func Ids(f api.Func) ([]int, api.Errno) {
	l, e := lookAt(f)
	if e != api.OK {
		return nil, e
	}
	return slices.Sorted(maps.Keys(l.types)), api.OK
}

// TypeOf: a value's type.
func TypeOf(f api.Func, id int) (int, api.Errno) {
	l, e := lookAt(f)
	if e != api.OK {
		return 0, e
	}
	typ, ok := l.types[id]
	if !ok {
		return 0, api.ErrNone
	}
	return typ, api.OK
}

// Uses: how often a value is used.
func Uses(f api.Func, id int) (int, api.Errno) {
	l, e := lookAt(f)
	if e != api.OK {
		return 0, e
	}
	if _, ok := l.types[id]; !ok {
		return 0, api.ErrNone
	}
	n := 0
	l.eachUse(func(used, _ int) {
		if used == id {
			n++
		}
	})
	return n, api.OK
}

// Size: how many phis, instructions and ends.
func Size(f api.Func) (int, api.Errno) {
	l, e := lookAt(f)
	if e != api.OK {
		return 0, e
	}
	return l.size(), api.OK
}

// Args: the type of what an operation makes (0: nothing), the types of what it takes, and whether it is one.
func Args(op int) (result int, args []int, ok bool) {
	switch op {
	case api.OpConst, api.OpLen, api.OpGet:
		return api.Int, nil, true
	case api.OpFlag:
		return api.Bool, nil, true
	case api.OpAdd, api.OpSub, api.OpMul, api.OpAnd, api.OpOr, api.OpXor, api.OpShl, api.OpShr, api.OpDiv, api.OpRem:
		return api.Int, []int{api.Int, api.Int}, true
	case api.OpEq, api.OpLt, api.OpBelow:
		return api.Bool, []int{api.Int, api.Int}, true
	case api.OpNot:
		return api.Bool, []int{api.Bool}, true
	case api.OpSelect:
		return api.Int, []int{api.Bool, api.Int, api.Int}, true
	case api.OpLoad, api.OpFetch:
		return api.Int, []int{api.Int}, true
	case api.OpStore, api.OpPut:
		return 0, []int{api.Int, api.Int}, true
	case api.OpOut, api.OpSet:
		return 0, []int{api.Int}, true
	}
	return 0, nil, false
}
