package fresh_test

import (
	"testing"

	"strake/api"
	"strake/fresh"
	"strake/sample"
)

func TestCopyIsTheSame(t *testing.T) {
	for i, f := range []api.Func{sample.Rich(), sample.Bare(), {}} {
		if !sample.Same(fresh.Func(f), f) {
			t.Errorf("function %d: its copy is another one", i)
		}
	}
	copied := 0
	sample.Turns(sample.Rich(), func(what string, f api.Func) {
		copied++
		if !sample.Same(fresh.Func(f), f) {
			t.Errorf("%s: the copy is another one", what)
		}
	})
	if copied < 1000 {
		t.Errorf("just %d functions were copied", copied)
	}
}

func TestCopyIsNewMemory(t *testing.T) {
	f := sample.Roomy(sample.Rich())
	before := sample.Memory(f)
	first, second := fresh.Func(f), fresh.Func(f)
	if sample.Memory(f) != before {
		t.Error("what was copied is changed")
	}
	if !sample.Apart(f, first, second) {
		t.Error("copies share memory")
	}
}

// TestCopyOfNothing: not even what is empty is handed back with its spare room.
func TestCopyOfNothing(t *testing.T) {
	f := sample.Rich()
	f.Params, f.Blocks[1].Phis[0].From = make([]int, 0, 5), make([]int, 0, 5)
	f.Blocks[2].Code = make([]api.Instr, 0, 5)
	if !sample.Apart(f, fresh.Func(f)) {
		t.Error("empty lists share memory")
	}
}

// TestCopyParts: lists that are one in what is handed in are two in the copy.
func TestCopyParts(t *testing.T) {
	f := sample.Rich()
	list := []int{2, 0}
	f.Blocks[1].Phis[0].From, f.Blocks[1].Phis[1].From, f.Blocks[3].Term.To = list, list, list
	f.Blocks[2] = f.Blocks[0]
	if !sample.Apart(fresh.Func(f)) {
		t.Error("lists of a copy share memory")
	}
}
