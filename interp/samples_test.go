package interp_test

import (
	"slices"
	"testing"

	"strake/api"
	"strake/interp"
	"strake/sample"
)

func sameTrace(a, b api.Trace) bool {
	return a.End == b.End && a.Value == b.Value && a.Trap == b.Trap && a.Steps == b.Steps && a.Checks == b.Checks &&
		slices.Equal(a.Out, b.Out) && slices.Equal(a.Visits, b.Visits) && slices.EqualFunc(a.Arrays, b.Arrays, slices.Equal)
}

// short is a trace without the most of long lists, to tell of it.
func short(r api.Trace) api.Trace {
	cut := func(list []int) []int { return list[:min(len(list), 20)] }
	r.Out, r.Visits = cut(r.Out), cut(r.Visits)
	r.Arrays = slices.Clone(r.Arrays)
	for i := range r.Arrays {
		r.Arrays[i] = cut(r.Arrays[i])
	}
	return r
}

func wantRun(t *testing.T, what string, f api.Func, in api.Input, fuel int, want api.Trace) {
	t.Helper()
	if got := interp.Run(f, in, fuel); !sameTrace(got, want) {
		t.Errorf("%s, fuel %d: %+v, want %+v", what, fuel, short(got), short(want))
	}
}

// wantPlain holds a run against the chapter's words.
func wantPlain(t *testing.T, what string, f api.Func, in api.Input, fuel int) api.Trace {
	t.Helper()
	want := plainRun(f, in, fuel)
	wantRun(t, what, f, in, fuel, want)
	return want
}

// refused is what a run answers that is none.
func refused() api.Trace { return api.Trace{End: api.Refused} }

// sum adds up the numbers below its parameter.
func sum(t *testing.T) api.Func {
	return sample.Read(t, "func int arrays 0 cells 0",
		"b0:", "v1 = const 0", "v2 = const 1", "jump b1",
		"b1:", "v3 = phi int b0 v1 b2 v6", "v4 = phi int b2 v7 b0 v1", "v5 = lt v3 v0", "branch v5 b2 b3",
		"b2:", "v6 = add v3 v2", "v7 = add v4 v3", "jump b1",
		"b3:", "return v4")
}

// forEver tells its parameter's numbers upwards, so many a round, and never ends by itself.
func forEver(t *testing.T, outs int) api.Func {
	lines := []string{"func int arrays 0 cells 0", "b0:", "v1 = const 1", "jump b1", "b1:", "v2 = phi int b0 v0 b1 v3", "v3 = add v2 v1"}
	for range outs {
		lines = append(lines, "out v2")
	}
	return sample.Read(t, append(lines, "jump b1")...)
}
