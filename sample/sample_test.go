package sample_test

import (
	"testing"

	"strake/api"
	"strake/ir"
	"strake/sample"
)

func TestSamplesAreFunctions(t *testing.T) {
	for i, f := range []api.Func{sample.Rich(), sample.Bare()} {
		if e := ir.Check(f); e != api.OK {
			t.Errorf("sample %d: error %d", i, e)
		}
	}
}

func TestSame(t *testing.T) {
	f, g := sample.Rich(), sample.Rich()
	g.Blocks[2].Phis, g.Blocks[0].Code[0].Args = []api.Phi{}, []int{}
	if !sample.Same(f, g) || !sample.Same(f, sample.Roomy(f)) {
		t.Error("one function is two")
	}
	turned := 0
	sample.Turns(f, func(what string, g api.Func) {
		if !sample.Same(f, g) {
			turned++
		}
	})
	if turned < 1000 {
		t.Errorf("just %d functions are other ones", turned)
	}
	if !sample.Same(f, sample.Rich()) {
		t.Error("Turns changes what it is given")
	}
}

func TestMemory(t *testing.T) {
	f := sample.Roomy(sample.Rich())
	before := sample.Memory(f)
	args := f.Blocks[2].Code[0].Args
	args = append(args, 5)
	if len(args) == 0 || sample.Memory(f) == before {
		t.Error("spare room is not looked at")
	}
}

func TestApart(t *testing.T) {
	if !sample.Apart(sample.Rich(), sample.Roomy(sample.Rich()), sample.Roomy(sample.Rich())) {
		t.Error("what shares nothing is not apart")
	}
	for i, share := range []func(f, g *api.Func){
		func(f, g *api.Func) { g.Params = f.Params },
		func(f, g *api.Func) { g.Params = f.Params[2:5] },
		func(f, g *api.Func) { g.Blocks = f.Blocks[:3] },
		func(f, g *api.Func) { g.Blocks[0].Code = f.Blocks[0].Code[3:] },
		func(f, g *api.Func) { g.Blocks[1].Phis = f.Blocks[1].Phis },
		func(f, g *api.Func) { g.Blocks[1].Phis[0].From = g.Blocks[1].Phis[0].Vals },
		func(f, g *api.Func) { g.Blocks[1].Term.To = f.Blocks[3].Term.To[1:] },
		func(f, g *api.Func) { g.Blocks[0].Code[4].Args = g.Blocks[0].Code[5].Args[2:3] },
	} {
		f, g := sample.Roomy(sample.Rich()), sample.Roomy(sample.Rich())
		share(&f, &g)
		if sample.Apart(f, g) {
			t.Errorf("sharing %d is not seen", i)
		}
	}
}
