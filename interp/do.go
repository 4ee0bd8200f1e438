package interp

import "strake/api"

// do does an instruction.
func (m *machine) do(in api.Instr) {
	args := make([]int, len(in.Args))
	for i, id := range in.Args {
		args[i] = m.values[id]
	}
	switch in.Op {
	case api.OpStore, api.OpPut:
		m.findElement(in, args[0])
		m.Arrays[in.N][args[0]] = args[1]
	case api.OpOut:
		m.tell(args[0])
	case api.OpSet:
		m.cells[in.N] = args[0]
	default:
		m.values[in.Id] = m.made(in, args)
	}
}

// made is what an instruction makes that makes something.
func (m *machine) made(in api.Instr, args []int) int {
	switch in.Op {
	case api.OpConst, api.OpFlag:
		return in.N
	case api.OpLen:
		return len(m.Arrays[in.N])
	case api.OpLoad, api.OpFetch:
		m.findElement(in, args[0])
		return m.Arrays[in.N][args[0]]
	case api.OpGet:
		return m.cells[in.N]
	}
	if dividesByZero(in.Op, args) {
		m.trap(api.TrapZero)
	}
	return m.calc(in.Op, args)
}

// findElement ends the run, if an array has no such element: by a trap just where the operation looks at bounds.
func (m *machine) findElement(in api.Instr, index int) {
	looks := in.Op == api.OpLoad || in.Op == api.OpStore
	if looks {
		m.Checks++
	}
	switch {
	case 0 <= index && index < len(m.Arrays[in.N]):
	case looks:
		m.trap(api.TrapBounds)
	default:
		panic(ending{end: api.Wild})
	}
}

func (m *machine) tell(n int) {
	if len(m.Out) == api.MaxOut {
		panic(ending{end: api.OutFull})
	}
	m.Out = append(m.Out, n)
}
