package sample

import "strake/api"

// Loose shows see functions that ir.Check takes, but that are not strict, each with strict.Check's answer.
func Loose(see func(what string, f api.Func, block int, want api.Errno)) {
	turned := func(what string, block int, want api.Errno, change func(f *api.Func)) {
		f := Whole()
		change(&f)
		see(what, f, block, want)
	}
	die := func(f *api.Func) { f.Blocks = append(f.Blocks, api.Block{Term: Trap(3)}, api.Block{Term: Jump(1)}) }
	forget := func(f *api.Func) {
		f.Blocks[1].Phis[1] = api.Phi{Id: 24, Type: api.Bool, From: []int{2}, Vals: []int{3}}
	}
	hurry := func(f *api.Func) { f.Blocks[0].Code[4].Args[1] = 22 }
	turned("blocks that can't be come to", 5, api.ErrDead, die)
	turned("a phi that forgets a block", 1, api.ErrPhi, forget)
	turned("a phi that has a block too many", 1, api.ErrPhi, func(f *api.Func) {
		f.Blocks[1].Phis[0] = api.Phi{Id: 23, Type: api.Int, From: []int{0, 3, 2}, Vals: []int{2, 2, 25}}
	})
	turned("a phi that has one block for another", 1, api.ErrPhi, func(f *api.Func) { f.Blocks[1].Phis[0].From[1] = 3 })
	turned("a use ahead of its value", 0, api.ErrUse, hurry)
	turned("a use of a value that another way goes around", 4, api.ErrUse, func(f *api.Func) {
		f.Blocks[4].Term = Return(25)
	})
	turned("a phi's use of a value that is not made there", 1, api.ErrUse, func(f *api.Func) { f.Blocks[1].Phis[0].Vals[0] = 25 })
	turned("a phi at fault, and a use ahead", 1, api.ErrPhi, func(f *api.Func) { forget(f); hurry(f) })
	turned("blocks that can't be come to, a phi at fault, and a use ahead", 5, api.ErrDead, func(f *api.Func) { die(f); forget(f); hurry(f) })
}
