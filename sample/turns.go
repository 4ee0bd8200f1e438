package sample

import (
	"strconv"

	"strake/api"
)

// Turns shows see a function with one thing changed, again and again: each number is each of Edges, each list is
// nothing, empty, doubled, swollen or cut. What see is given is changed behind it.
func Turns(f api.Func, see func(what string, f api.Func)) {
	f = Roomy(f)
	for i, n := range Numbers(&f) {
		was := *n
		for _, edge := range Edges() {
			*n = edge
			see("number "+strconv.Itoa(i)+" is "+strconv.Itoa(edge), f)
		}
		*n = was
	}
	turnLists(&f, func(what string) { see(what, f) })
}

func turnLists(f *api.Func, see func(what string)) {
	turnList("params", &f.Params, see)
	turnList("blocks", &f.Blocks, see)
	for i := range f.Blocks {
		b, at := &f.Blocks[i], " of block "+strconv.Itoa(i)
		turnList("phis"+at, &b.Phis, see)
		turnList("code"+at, &b.Code, see)
		turnList("to"+at, &b.Term.To, see)
		for k := range b.Phis {
			turnList("from"+at, &b.Phis[k].From, see)
			turnList("vals"+at, &b.Phis[k].Vals, see)
		}
		for k := range b.Code {
			turnList("args"+at, &b.Code[k].Args, see)
		}
	}
}

func turnList[T any](what string, list *[]T, see func(what string)) {
	was := *list
	show := func(how string, turned []T) {
		*list = turned
		see(what + " " + how)
	}
	show("nothing", nil)
	show("empty", []T{})
	show("doubled", append(append([]T{}, was...), was...))
	show("swollen", make([]T, 6000))
	if len(was) > 0 {
		show("without the first", was[1:])
		show("without the last", was[:len(was)-1])
	}
	*list = was
}
