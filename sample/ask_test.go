package sample_test

import (
	"testing"

	"strake/api"
	"strake/sample"
)

// faults counts what it is told.
type faults int

func (n *faults) Helper()               {}
func (n *faults) Errorf(string, ...any) { *n++ }

func wantFaults(t *testing.T, what string, got, want faults) {
	t.Helper()
	if got != want {
		t.Errorf("%s: %d faults were told, want %d", what, got, want)
	}
}

func TestStays(t *testing.T) {
	for _, c := range []struct {
		what   string
		change func(f api.Func)
		want   faults
	}{
		{"nothing", func(f api.Func) {}, 0},
		{"a number", func(f api.Func) { f.Blocks[1].Phis[0].Vals[1]++ }, 1},
		{"spare room", func(f api.Func) { _ = append(f.Blocks[2].Code[0].Args, 5) }, 1},
		{"the function that was handed over, but not its lists", func(f api.Func) { f.Blocks = nil }, 0},
	} {
		asked, told := 0, faults(0)
		sample.Stays(&told, c.what, sample.Whole(), func(what string, f api.Func) {
			asked++
			c.change(f)
		})
		wantFaults(t, c.what, told, c.want)
		if asked != 1 {
			t.Errorf("%s: it was asked %d times", c.what, asked)
		}
	}
}

func TestAskStrict(t *testing.T) {
	for _, c := range []struct {
		what    string
		f       api.Func
		refused api.Errno
		asked   int
		panics  bool
		want    faults
	}{
		{"a strict one", sample.Whole(), api.OK, 1, false, 0},
		{"one that is not strict", sample.Rich(), api.ErrDead, 0, false, 0},
		{"one that is not formed", api.Func{}, api.ErrForm, 0, false, 0},
		{"a panic of a strict one", sample.Bare(), api.OK, 1, true, 1},
		{"a panic of one that is refused", api.Func{}, api.ErrForm, 0, true, 1},
	} {
		asked, refused, told := 0, api.OK, faults(0)
		give := func() {
			if c.panics {
				panic("it gives up")
			}
		}
		sample.AskStrict(&told, c.what, c.f, func(e api.Errno) { refused = e; give() }, func() { asked++; give() })
		wantFaults(t, c.what, told, c.want)
		if asked != c.asked || refused != c.refused {
			t.Errorf("%s: it is asked %d times, and refused with %d", c.what, asked, refused)
		}
	}
}

func TestAskTurns(t *testing.T) {
	asked, told := 0, faults(0)
	ask := func(what string, f api.Func) { asked++ }
	sample.AskTurns(&told, []api.Func{sample.Whole(), sample.Rich()}, ask)
	wantFaults(t, "whole and rich", told, 0)
	turns := 0
	sample.Turns(sample.Whole(), func(string, api.Func) { turns++ })
	sample.Turns(sample.Rich(), func(string, api.Func) { turns++ })
	if asked != turns || asked < 1000 {
		t.Errorf("it was asked %d times, of %d", asked, turns)
	}
	sample.AskTurns(&told, nil, ask)
	wantFaults(t, "nothing", told, 6)
}
