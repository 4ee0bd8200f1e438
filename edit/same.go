package edit

import (
	"slices"

	"strake/api"
)

// same takes nil and empty lists for one.
func same(f, g api.Func) bool {
	return f.Arrays == g.Arrays && f.Cells == g.Cells &&
		slices.Equal(f.Params, g.Params) &&
		slices.EqualFunc(f.Blocks, g.Blocks, sameBlock)
}

func sameBlock(a, b api.Block) bool {
	return slices.EqualFunc(a.Phis, b.Phis, samePhi) &&
		slices.EqualFunc(a.Code, b.Code, sameInstr) &&
		sameTerm(a.Term, b.Term)
}

func samePhi(a, b api.Phi) bool {
	return a.Id == b.Id && a.Type == b.Type && slices.Equal(a.From, b.From) && slices.Equal(a.Vals, b.Vals)
}

func sameInstr(a, b api.Instr) bool {
	return a.Op == b.Op && a.Id == b.Id && a.N == b.N && slices.Equal(a.Args, b.Args)
}

func sameTerm(a, b api.Term) bool {
	return a.Op == b.Op && a.Val == b.Val && a.N == b.N && slices.Equal(a.To, b.To)
}
