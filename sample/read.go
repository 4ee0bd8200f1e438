package sample

import (
	"strings"

	"strake/api"
	"strake/text"
)

// Failer is what a test has to give up by.
type Failer interface {
	Helper()
	Fatalf(format string, args ...any)
}

// Read makes a function of its lines.
func Read(t Failer, lines ...string) api.Func {
	t.Helper()
	f, line, e := text.Parse(strings.Join(lines, "\n") + "\n")
	if e != api.OK {
		t.Fatalf("error %d at line %d of %q", e, line, lines)
	}
	return f
}

// Flagged reads a function of one flag, v0; what is told are its lines behind the first.
func Flagged(t Failer, lines ...string) api.Func {
	t.Helper()
	return Read(t, append([]string{"func bool arrays 0 cells 0"}, lines...)...)
}
