package sample

import (
	"strake/api"
	"strake/strict"
)

// Teller is what a test tells faults by.
type Teller interface {
	Helper()
	Errorf(format string, args ...any)
}

// Stays asks a function with much spare room in its lists, and tells if asking changes what they hold.
func Stays(t Teller, what string, f api.Func, ask func(what string, f api.Func)) {
	t.Helper()
	f = Roomy(f)
	before := Memory(f)
	ask(what, f)
	if Memory(f) != before {
		t.Errorf("%s: what was handed in is changed", what)
	}
}

// AskStrict asks a function as a strict one, or as one that is refused with strict.Check's error, and tells of a panic.
func AskStrict(t Teller, what string, f api.Func, refused func(e api.Errno), ask func()) {
	t.Helper()
	defer func() {
		if r := recover(); r != nil {
			t.Errorf("%s: panic: %v", what, r)
		}
	}()
	if _, e := strict.Check(f); e != api.OK {
		refused(e)
		return
	}
	ask()
}

// AskTurns asks all that Turns makes of some functions, and tells if there are too few with one of strict.Check's answers.
func AskTurns(t Teller, fs []api.Func, ask func(what string, f api.Func)) {
	t.Helper()
	seen := map[api.Errno]int{}
	for _, f := range fs {
		Turns(f, func(what string, f api.Func) {
			_, e := strict.Check(f)
			seen[e]++
			ask(what, f)
		})
	}
	for _, e := range []api.Errno{api.OK, api.ErrForm, api.ErrType, api.ErrDead, api.ErrPhi, api.ErrUse} {
		if seen[e] < 10 {
			t.Errorf("error %d: just %d functions", e, seen[e])
		}
	}
}
