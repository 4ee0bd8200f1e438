package interp_test

import (
	"fmt"
	"math"
	"slices"
	"testing"

	"strake/api"
	"strake/interp"
	"strake/sample"
)

// TestFuelEnds stops one run ahead of each of its steps.
func TestFuelEnds(t *testing.T) {
	f := sample.Flagged(t, "b0:", "jump b1", "b1:", "v1 = phi bool b0 v0 b2 v3", "branch v1 b3 b2", "b2:", "v2 = const 4", "out v2", "v3 = not v1", "jump b1", "b3:", "return v1")
	for fuel, want := range []api.Trace{
		{End: api.NoFuel, Steps: 0, Visits: []int{1, 0, 0, 0}},
		{End: api.NoFuel, Steps: 1, Visits: []int{1, 1, 0, 0}},
		{End: api.NoFuel, Steps: 2, Visits: []int{1, 1, 1, 0}},
		{End: api.NoFuel, Steps: 3, Visits: []int{1, 1, 1, 0}},
		{End: api.NoFuel, Steps: 4, Visits: []int{1, 1, 1, 0}, Out: []int{4}},
		{End: api.NoFuel, Steps: 5, Visits: []int{1, 1, 1, 0}, Out: []int{4}},
		{End: api.NoFuel, Steps: 6, Visits: []int{1, 2, 1, 0}, Out: []int{4}},
		{End: api.NoFuel, Steps: 7, Visits: []int{1, 2, 1, 1}, Out: []int{4}},
		{End: api.Returned, Value: 1, Steps: 8, Visits: []int{1, 2, 1, 1}, Out: []int{4}},
		{End: api.Returned, Value: 1, Steps: 8, Visits: []int{1, 2, 1, 1}, Out: []int{4}},
	} {
		wantRun(t, "a run", f, api.Input{}, fuel, want)
	}
	wantRun(t, "a trap without fuel", sample.Bare(), api.Input{}, 0, api.Trace{End: api.NoFuel, Visits: []int{1}})
}

// TestNoFuelComesFirst: a step that would end the run otherwise is not begun without fuel.
func TestNoFuelComesFirst(t *testing.T) {
	for line, want := range map[string]api.Trace{
		"v2 = load 0 v0":  {End: api.Trapped, Trap: api.TrapBounds, Checks: 1},
		"v2 = div v0 v0":  {End: api.Trapped, Trap: api.TrapZero},
		"v2 = fetch 0 v0": {End: api.Wild},
		"put 0 v0 v0":     {End: api.Wild},
	} {
		f := sample.Read(t, "func int arrays 1 cells 0", "b0:", "v1 = const 1", line, "return v1")
		wantRun(t, line, f, api.Input{}, 1, api.Trace{End: api.NoFuel, Arrays: [][]int{nil}, Steps: 1, Visits: []int{1}})
		want.Arrays, want.Steps, want.Visits = [][]int{nil}, 2, []int{1}
		wantRun(t, line, f, api.Input{}, 2, want)
	}
	f := forEver(t, 1)
	if r := interp.Run(f, api.Input{}, 2+3*api.MaxOut+1); r.End != api.NoFuel || len(r.Out) != api.MaxOut {
		t.Errorf("all told: %+v", short(r))
	}
	if r := interp.Run(f, api.Input{}, 2+3*api.MaxOut+2); r.End != api.OutFull || len(r.Out) != api.MaxOut || r.Steps != 2+3*api.MaxOut+2 {
		t.Errorf("one more told: %+v", short(r))
	}
}

// TestMaxFuel: more than MaxFuel steps are never done.
func TestMaxFuel(t *testing.T) {
	f := forEver(t, 0)
	for _, fuel := range []int{api.MaxFuel - 1, api.MaxFuel, api.MaxFuel + 1, 1 << 32, math.MaxInt} {
		steps := min(fuel, api.MaxFuel)
		wantRun(t, "a run for ever", f, api.Input{}, fuel, api.Trace{End: api.NoFuel, Steps: steps, Visits: []int{1, 1 + (steps-2)/2}})
	}
	// A sum takes 5 n + 6 steps; it returns with the last step that there may be, or would with the next one.
	const n = 39998
	g := sum(t)
	end := &g.Blocks[3]
	for i := range api.MaxFuel - 5*n - 6 {
		end.Code = append(end.Code, api.Instr{Op: api.OpConst, Id: 10 + i})
	}
	visits := []int{1, n + 1, n, 1}
	for _, fuel := range []int{api.MaxFuel, math.MaxInt} {
		wantRun(t, "up to the edge", g, api.Input{Args: []int{n}}, fuel, api.Trace{End: api.Returned, Value: n * (n - 1) / 2, Steps: api.MaxFuel, Visits: visits})
	}
	end.Code = append(end.Code, api.Instr{Op: api.OpConst, Id: 9})
	wantRun(t, "over the edge", g, api.Input{Args: []int{n}}, math.MaxInt, api.Trace{End: api.NoFuel, Steps: api.MaxFuel, Visits: visits})
}

// startsWith: is what a run told, and how often it came to blocks, a beginning of what another one did?
func startsWith(longer, r api.Trace) bool {
	if len(longer.Out) < len(r.Out) || !slices.Equal(longer.Out[:len(r.Out)], r.Out) || longer.Checks < r.Checks {
		return false
	}
	for b, n := range r.Visits {
		if longer.Visits[b] < n {
			return false
		}
	}
	return true
}

// TestMoreFuel: with each step of fuel more a run goes on as it did (P9).
func TestMoreFuel(t *testing.T) {
	ended, open := 0, 0
	for seed := range 150 {
		f := sample.Busy(2+seed%20, seed)
		for i, in := range sample.Inputs()[:3] {
			what := fmt.Sprintf("seed %d, input %d", seed, i)
			last := interp.Run(f, in, 0)
			for fuel := 1; fuel < 120; fuel++ {
				r := wantPlain(t, what, f, in, fuel)
				if last.End != api.NoFuel && !sameTrace(r, last) {
					t.Errorf("%s: it had ended, and is another one with fuel %d", what, fuel)
				}
				if last.End == api.NoFuel && (last.Steps != fuel-1 || r.Steps != fuel || !startsWith(r, last)) {
					t.Errorf("%s: it does not go on as it did with fuel %d: %+v, %+v", what, fuel, short(last), short(r))
				}
				last = r
			}
			if last.End == api.NoFuel {
				open++
			} else {
				ended++
			}
		}
	}
	if ended < 50 || open < 50 {
		t.Errorf("%d runs ended, and %d did not", ended, open)
	}
}
