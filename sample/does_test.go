package sample_test

import (
	"testing"

	"strake/api"
	"strake/interp"
	"strake/sample"
)

// doer tells its number n, writes it into its array's first element, and has these lines behind.
func doer(t *testing.T, lines ...string) api.Func {
	t.Helper()
	return sample.Read(t, append([]string{"func int arrays 1 cells 0", "b0:", "v1 = const 0", "out v0", "store 0 v1 v0"}, lines...)...)
}

// again tells more and more numbers, and never ends by itself before it has told all that may be.
func again(t *testing.T, lines ...string) api.Func {
	t.Helper()
	return doer(t, append(append([]string{"v2 = const 1", "jump b1", "b1:", "v3 = phi int b0 v0 b1 v4", "v4 = add v3 v2"}, lines...), "jump b1")...)
}

func TestDoes(t *testing.T) {
	in := api.Input{Args: []int{7}, Arrays: [][]int{{1, 2}}}
	returns, traps, wild := doer(t, "return v0"), doer(t, "trap 2"), doer(t, "v2 = fetch 0 v0", "return v2")
	quiet, loud := again(t), again(t, "out v4")
	for _, c := range []struct {
		what string
		f, g api.Func
		does bool
	}{
		{"itself", returns, returns, true},
		{"a trap", traps, traps, true},
		{"in more steps", returns, doer(t, "v2 = add v0 v1", "v3 = add v2 v1", "return v3"), true},
		{"another value", returns, doer(t, "return v1"), false},
		{"another end", returns, traps, false},
		{"another trap", traps, doer(t, "trap 3"), false},
		{"more told", returns, doer(t, "out v0", "return v0"), false},
		{"less told", doer(t, "out v0", "return v0"), returns, false},
		{"other numbers told", doer(t, "out v0", "return v0"), doer(t, "out v1", "return v0"), false},
		{"another array", returns, doer(t, "store 0 v1 v1", "return v0"), false},
		{"for ever", quiet, quiet, true},
		{"for ever, as far as fuel tells, and not", quiet, returns, true},
		{"for ever, and not, with less told", again(t, "out v4"), returns, false},
		{"not, and for ever", returns, quiet, false},
		{"for ever, and other numbers told", loud, again(t, "out v3"), false},
		{"all told", loud, loud, true},
		{"wild", wild, wild, true},
		{"wild, and not", wild, returns, true},
		{"wild, with less told", doer(t, "out v1", "v2 = fetch 0 v0", "return v2"), returns, false},
		{"not, and wild", returns, wild, false},
		{"other parameters", returns, sample.Read(t, "func int int arrays 1 cells 0", "b0:", "v2 = const 0", "out v0", "store 0 v2 v0", "return v0"), false},
		{"another type", sample.Read(t, "func int arrays 0 cells 0", "b0:", "trap 0"), sample.Read(t, "func bool arrays 0 cells 0", "b0:", "trap 0"), false},
		{"more arrays", returns, sample.Read(t, "func int arrays 2 cells 0", "b0:", "v1 = const 0", "out v0", "store 0 v1 v0", "return v0"), false},
		{"one that is refused", returns, sample.Rich(), false},
		{"one that is none", api.Func{}, api.Func{}, false},
	} {
		if why := sample.Does(c.f, c.g, in); (why == "") != c.does {
			t.Errorf("%s: Does tells %q", c.what, why)
		}
	}
}

// TestDoesWithFuel: what takes more steps than R9 lets it is told, if it ends or not.
func TestDoesWithFuel(t *testing.T) {
	slow := func(rounds string) api.Func {
		return sample.Read(t, "func arrays 0 cells 0", "b0:", "v0 = const 1", "v1 = const "+rounds, "jump b1",
			"b1:", "v2 = phi int b0 v0 b1 v3", "v3 = add v2 v0", "v4 = lt v3 v1", "branch v4 b1 b2", "b2:", "return v0")
	}
	fast := sample.Read(t, "func arrays 0 cells 0", "b0:", "v0 = const 1", "return v0")
	// Of the fast one's 2 steps and size 2 it follows that 144 are enough.
	for rounds, does := range map[string]bool{"40": true, "47": true, "48": false, "60": false} {
		g := slow(rounds)
		if why := sample.Does(fast, g, api.Input{}); (why == "") != does {
			t.Errorf("%s rounds, %d steps: Does tells %q", rounds, interp.Run(g, api.Input{}, 1000).Steps, why)
		}
	}
}

func TestInputs(t *testing.T) {
	ends := map[int]int{}
	for seed := range 200 {
		f := sample.Busy(2+seed%20, seed)
		for _, in := range sample.Inputs() {
			ends[interp.Run(f, in, 400).End]++
			if why := sample.Does(f, f, in); why != "" {
				t.Errorf("seed %d: a function does not do what it does: %s", seed, why)
			}
		}
	}
	for _, end := range []int{api.Returned, api.Trapped, api.NoFuel, api.Wild} {
		if ends[end] < 20 {
			t.Errorf("just %d runs end with %d", ends[end], end)
		}
	}
}
