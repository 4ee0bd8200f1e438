package sample

import (
	"strconv"
	"strings"

	"strake/api"
)

// walk goes through a function's memory in a fixed order: each list's length, each number.
type walk struct {
	spare  bool // the lists' spare room, too
	list   func(length int)
	number func(n *int)
}

func items[T any](w walk, list []T) []T {
	w.list(len(list))
	if w.spare {
		return list[:cap(list)]
	}
	return list
}

func (w walk) numbers(ns ...*int) {
	for _, n := range ns {
		w.number(n)
	}
}

func (w walk) ints(list []int) {
	list = items(w, list)
	for i := range list {
		w.number(&list[i])
	}
}

func (w walk) function(f *api.Func) {
	w.numbers(&f.Arrays, &f.Cells)
	w.ints(f.Params)
	blocks := items(w, f.Blocks)
	for i := range blocks {
		w.block(&blocks[i])
	}
}

func (w walk) block(b *api.Block) {
	phis := items(w, b.Phis)
	for i := range phis {
		p := &phis[i]
		w.numbers(&p.Id, &p.Type)
		w.ints(p.From)
		w.ints(p.Vals)
	}
	code := items(w, b.Code)
	for i := range code {
		in := &code[i]
		w.numbers(&in.Op, &in.Id, &in.N)
		w.ints(in.Args)
	}
	w.numbers(&b.Term.Op, &b.Term.Val, &b.Term.N)
	w.ints(b.Term.To)
}

func show(f api.Func, spare bool) string {
	var s strings.Builder
	walk{
		spare,
		func(length int) { s.WriteString("[" + strconv.Itoa(length) + "]") },
		func(n *int) { s.WriteString(strconv.Itoa(*n) + " ") },
	}.function(&f)
	return s.String()
}

// Same tells whether two functions are one; nil and empty lists are the same.
func Same(f, g api.Func) bool { return show(f, false) == show(g, false) }

// Memory is all that a function's memory holds, spare room included.
func Memory(f api.Func) string { return show(f, true) }

// Numbers are the places of all numbers of a function, spare room left out.
func Numbers(f *api.Func) []*int {
	var all []*int
	walk{false, func(int) {}, func(n *int) { all = append(all, n) }}.function(f)
	return all
}

// Fill writes over all numbers in the lists of functions, spare room included.
func Fill(n int, fs ...api.Func) {
	for _, f := range fs {
		walk{true, func(int) {}, func(at *int) { *at = n }}.function(&f)
	}
}

// Apart tells whether no two lists of these functions share memory, spare room included. It writes over them:
// where lists share, a later mark stands over an earlier one.
func Apart(fs ...api.Func) bool {
	mark := 0
	write := walk{true, func(int) {}, func(at *int) { mark++; *at = mark }}
	for i := range fs {
		write.function(&fs[i])
	}
	mark = 0
	apart := true
	read := walk{true, func(int) {}, func(at *int) { mark++; apart = apart && *at == mark }}
	for i := range fs {
		read.function(&fs[i])
	}
	return apart
}

// roomy is a copy of a list with spare room that holds something.
func roomy[T any](list []T, spare T) []T {
	all := append([]T{}, list...)
	for range 40 {
		all = append(all, spare)
	}
	return all[:len(list)]
}

// Roomy is a copy of a function with much spare room in each of its lists.
func Roomy(f api.Func) api.Func {
	f.Params, f.Blocks = roomy(f.Params, 71), roomy(f.Blocks, api.Block{Term: Trap(72)})
	for i := range f.Blocks {
		b := &f.Blocks[i]
		b.Phis, b.Code = roomy(b.Phis, api.Phi{Id: 73}), roomy(b.Code, api.Instr{Id: 74})
		b.Term.To = roomy(b.Term.To, 75)
		for k := range b.Phis {
			b.Phis[k].From, b.Phis[k].Vals = roomy(b.Phis[k].From, 76), roomy(b.Phis[k].Vals, 77)
		}
		for k := range b.Code {
			b.Code[k].Args = roomy(b.Code[k].Args, 78)
		}
	}
	return f
}

// AloneLists tells whether no two of these lists share memory, spare room included. It writes over them.
func AloneLists(lists [][]int) bool {
	mark := 0
	for _, list := range lists {
		list = list[:cap(list)]
		for i := range list {
			mark++
			list[i] = mark
		}
	}
	mark = 0
	alone := true
	for _, list := range lists {
		for _, n := range list[:cap(list)] {
			mark++
			alone = alone && n == mark
		}
	}
	return alone
}
