package ir_test

import (
	"slices"
	"testing"

	"strake/api"
	"strake/ir"
	"strake/sample"
)

func TestArgs(t *testing.T) {
	rows := table()
	if len(rows) != 25 {
		t.Fatalf("the table has %d rows", len(rows))
	}
	for i, r := range rows {
		if r.op != i+1 {
			t.Fatalf("row %d is of operation %d", i, r.op)
		}
		makes, takes := 0, []int{}
		for _, c := range r.makes {
			makes = typeNamed(c)
		}
		for _, c := range r.takes {
			takes = append(takes, typeNamed(c))
		}
		result, args, ok := ir.Args(r.op)
		if result != makes || !slices.Equal(args, takes) || !ok {
			t.Errorf("Args(%d): %d, %v, %v, want %d, %v", r.op, result, args, ok, makes, takes)
		}
	}
}

func TestArgsOfNoOperation(t *testing.T) {
	for _, op := range append(sample.Edges(), 27, 100, 256, 1<<32+1) {
		if op >= api.OpConst && op <= api.OpSet {
			continue
		}
		if result, args, ok := ir.Args(op); result != 0 || len(args) != 0 || ok {
			t.Errorf("Args(%d): %d, %v, %v", op, result, args, ok)
		}
	}
}
