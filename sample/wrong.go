package sample

import "strake/api"

// Wrong shows see functions that ir.Check refuses, each with its error.
func Wrong(see func(what string, f api.Func, want api.Errno)) {
	see("nothing", api.Func{}, api.ErrForm)
	turned := func(what string, want api.Errno, change func(f *api.Func)) {
		f := Rich()
		change(&f)
		see(what, f, want)
	}
	turned("not formed", api.ErrForm, func(f *api.Func) { f.Cells = -1 })
	turned("not formed, where nothing comes to", api.ErrForm, func(f *api.Func) { f.Blocks[5].Term.N = -1 })
	turned("no such block", api.ErrForm, func(f *api.Func) { f.Blocks[1].Term.To[0] = 7 })
	turned("back to block 0", api.ErrForm, func(f *api.Func) { f.Blocks[1].Term.To[0] = 0 })
	turned("too many blocks", api.ErrForm, func(f *api.Func) { f.Blocks = append(f.Blocks, Line(api.MaxBlocks).Blocks...) })
	turned("no such value", api.ErrUse, func(f *api.Func) { f.Blocks[4].Term.Val = 99 })
	turned("no such value, where nothing comes to", api.ErrUse, func(f *api.Func) { f.Blocks[6].Term.Val = 99 })
	turned("a wrong type", api.ErrType, func(f *api.Func) { f.Blocks[3].Term.Val = 0 })
	turned("a wrong type, and a value that stands where nothing comes to", api.ErrType, func(f *api.Func) {
		f.Blocks[5].Code = []api.Instr{{Op: api.OpConst, Id: 50}}
		f.Blocks[3].Term.Val = 50
	})
}
