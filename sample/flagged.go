package sample

import (
	"strings"

	"strake/api"
	"strake/text"
)

// Failer is what a test has to give up by.
type Failer interface {
	Helper()
	Fatalf(format string, args ...any)
}

// Flagged reads a function of one flag, v0; what is told are its lines behind the first.
func Flagged(t Failer, lines ...string) api.Func {
	t.Helper()
	f, line, e := text.Parse("func bool arrays 0 cells 0\n" + strings.Join(lines, "\n") + "\n")
	if e != api.OK {
		t.Fatalf("error %d at line %d of %q", e, line, lines)
	}
	return f
}
