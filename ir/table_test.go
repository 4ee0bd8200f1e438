package ir_test

import (
	"strake/api"
	"strake/sample"
)

// row is a line of the chapter's table of operations: I is Int, B is Bool.
type row struct {
	op    int
	takes string
	makes string
	n     string
}

// table is written out by number, so that it does not lean on api's names.
func table() []row {
	rows := []row{{1, "", "I", "any"}, {2, "", "B", "flag"}}
	for op := 3; op <= 12; op++ {
		rows = append(rows, row{op, "II", "I", "none"})
	}
	return append(rows,
		row{13, "II", "B", "none"}, row{14, "II", "B", "none"}, row{15, "II", "B", "none"},
		row{16, "B", "B", "none"}, row{17, "BII", "I", "none"},
		row{18, "", "I", "array"}, row{19, "I", "I", "array"}, row{20, "II", "", "array"},
		row{21, "I", "I", "array"}, row{22, "II", "", "array"}, row{23, "I", "", "none"},
		row{24, "", "I", "cell"}, row{25, "I", "", "cell"},
	)
}

func typeNamed(c rune) int { return map[rune]int{'I': api.Int, 'B': api.Bool}[c] }

// single has one instruction of an operation that stands right: value 0 is Int, 1 is Bool, 2 what it makes, if anything.
func single(r row) api.Func {
	in := api.Instr{Op: r.op, Id: -1}
	if r.makes != "" {
		in.Id = 2
	}
	for _, c := range r.takes {
		in.Args = append(in.Args, map[rune]int{'I': 0, 'B': 1}[c])
	}
	return api.Func{Params: []int{api.Int, api.Bool}, Arrays: 2, Cells: 3, Blocks: []api.Block{
		{Code: []api.Instr{in}, Term: sample.Trap(0)},
	}}
}
