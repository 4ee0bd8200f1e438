package interp

import (
	"slices"

	"strake/api"
	"strake/values"
)

// nowhere is where block 0 is come from.
const nowhere = -1

// ending is how a run ends; what is being done is given up by a panic with it.
type ending struct{ end, value, trap int }

// machine is a run as far as it has come. The function must be strict: each value is made ahead of its uses.
type machine struct {
	api.Trace
	operations
	blocks []api.Block
	fuel   int
	values []int
	cells  []int
}

func machineOf(f api.Func, in api.Input, fuel int) *machine {
	m := &machine{operations: pairs(), blocks: f.Blocks, fuel: fuel, values: make([]int, values.FirstNew(f)), cells: make([]int, f.Cells)}
	m.Visits = make([]int, len(f.Blocks))
	m.Arrays = make([][]int, f.Arrays)
	m.takeArgs(f.Params, in.Args)
	m.takeArrays(in.Arrays)
	return m
}

func (m *machine) takeArgs(params, args []int) {
	for i := range min(len(params), len(args)) {
		m.values[i] = args[i]
		if params[i] == api.Bool && args[i] != 0 {
			m.values[i] = 1
		}
	}
}

func (m *machine) takeArrays(arrays [][]int) {
	for i := range min(len(m.Arrays), len(arrays)) {
		list := arrays[i]
		m.Arrays[i] = append([]int(nil), list[:min(len(list), api.MaxLen)]...)
	}
}

// run goes from block to block until a panic ends it.
func (m *machine) run() {
	defer func() {
		if e, ok := recover().(ending); ok {
			m.End, m.Value, m.Trap = e.end, e.value, e.trap
		}
	}()
	from, at := nowhere, 0
	for {
		m.comeTo(at, from)
		for _, in := range m.blocks[at].Code {
			m.step()
			m.do(in)
		}
		m.step()
		from, at = at, m.next(m.blocks[at].Term)
	}
}

// comeTo asks for all that the phis get ahead of giving: one may get what another one was.
func (m *machine) comeTo(b, from int) {
	m.Visits[b]++
	phis := m.blocks[b].Phis
	got := make([]int, len(phis))
	for i, p := range phis {
		got[i] = m.values[p.Vals[slices.Index(p.From, from)]]
	}
	for i, p := range phis {
		m.values[p.Id] = got[i]
	}
}

// step begins a step, if there is fuel for it.
func (m *machine) step() {
	if m.Steps == m.fuel {
		panic(ending{end: api.NoFuel})
	}
	m.Steps++
}

// next does a block's end: to which block does it go?
func (m *machine) next(t api.Term) int {
	switch t.Op {
	case api.Return:
		panic(ending{end: api.Returned, value: m.values[t.Val]})
	case api.Trap:
		m.trap(t.N)
	case api.Branch:
		if m.values[t.Val] == 0 {
			return t.To[1]
		}
	}
	return t.To[0]
}

func (m *machine) trap(n int) { panic(ending{end: api.Trapped, trap: n}) }
