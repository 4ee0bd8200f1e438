// Package fresh copies functions, so that a layer can change one that shares nothing with what was handed in.
package fresh

import "strake/api"

// Func is a copy of a function, in memory of its own.
func Func(f api.Func) api.Func {
	f.Params, f.Blocks = list(f.Params), list(f.Blocks)
	for i := range f.Blocks {
		f.Blocks[i] = block(f.Blocks[i])
	}
	return f
}

func block(b api.Block) api.Block {
	b.Phis, b.Code, b.Term.To = list(b.Phis), list(b.Code), list(b.Term.To)
	for i := range b.Phis {
		p := &b.Phis[i]
		p.From, p.Vals = list(p.From), list(p.Vals)
	}
	for i := range b.Code {
		in := &b.Code[i]
		in.Args = list(in.Args)
	}
	return b
}

// list appends to nothing, as slices.Clone would hand an empty list back as it is.
func list[T any](all []T) []T { return append([]T(nil), all...) }
