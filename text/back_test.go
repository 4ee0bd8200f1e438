package text_test

import (
	"fmt"
	"slices"
	"strings"
	"testing"

	"strake/api"
	"strake/ir"
	"strake/sample"
	"strake/text"
)

// TestThereAndBack: what Print answers, Parse makes the function of (P2), and Print tells what ir.Check says.
func TestThereAndBack(t *testing.T) {
	right := 0
	sample.Turns(sample.Rich(), func(what string, f api.Func) {
		s, e := text.Print(f)
		if want := ir.Check(f); e != want || e != api.OK && s != "" {
			t.Errorf("%s: Print answers %q, %d, want error %d", what, s, e, want)
		}
		if e == api.OK {
			right++
			wantParse(t, what, s, f)
		}
	})
	if right < 100 {
		t.Errorf("just %d functions went there and back", right)
	}
}

// wantSense asks of any text that Parse answers what makes sense: Print undoes it (P2), or there is a first line at fault.
func wantSense(t *testing.T, s string) {
	t.Helper()
	defer func() {
		if r := recover(); r != nil {
			t.Errorf("Parse of %q: panic: %v", s, r)
		}
	}()
	f, line, e := text.Parse(s)
	switch e {
	case api.OK:
		if back, e := text.Print(f); back != s || e != api.OK || line != 0 {
			t.Errorf("Parse of %q, and back: %q, %d, beside line %d", s, back, e, line)
		}
		return
	case api.ErrText:
		wantFirst(t, s, line)
	case api.ErrForm, api.ErrUse, api.ErrType:
		if line != 0 {
			t.Errorf("Parse of %q: error %d at %d", s, e, line)
		}
	default:
		t.Errorf("Parse of %q: error %d", s, e)
	}
	if !sample.Same(f, api.Func{}) {
		t.Errorf("Parse of %q: a function beside error %d", s, e)
	}
}

// wantFirst asks whether a line is the first at fault: the lines ahead of it stand right, and no line behind it matters.
func wantFirst(t *testing.T, s string, line int) {
	t.Helper()
	all := strings.SplitAfter(s, "\n")
	if line < 1 || line > len(all) {
		t.Errorf("Parse of %q: a fault at %d of %d", s, line, len(all))
		return
	}
	if _, at, e := text.Parse(strings.Join(all[:line-1], "")); e == api.ErrText && at != line {
		t.Errorf("Parse of %q: a fault at %d, and at %d, with the lines ahead alone", s, line, at)
	}
	if _, at, e := text.Parse(strings.Join(all[:line], "")); e != api.ErrText || at != line {
		t.Errorf("Parse of %q: a fault at %d, and %d at %d, without what is behind", s, line, e, at)
	}
}

// TestAnyText takes bytes out of a text, and puts others there (R1).
func TestAnyText(t *testing.T) {
	bytes := []string{"", " ", "\n", "\x00", "\xff", "0", "1", "9", "-", "+", "v", "b", ":", "=", "\r", "\t", "é"}
	s := rich()
	for i := range len(s) {
		for _, b := range bytes {
			wantSense(t, s[:i]+b+s[i+1:])
			wantSense(t, s[:i]+b+s[i:])
		}
	}
}

// TestAnyLines takes lines out, doubles them and turns them.
func TestAnyLines(t *testing.T) {
	all := strings.SplitAfter(strings.TrimSuffix(rich(), "\n"), "\n")
	all[len(all)-1] += "\n"
	for i := range all {
		for k := i; k <= len(all); k++ {
			wantSense(t, strings.Join(slices.Concat(all[:i], all[k:]), ""))
			wantSense(t, strings.Join(slices.Concat(all[:k], all[i:]), ""))
			turned := slices.Clone(all)
			slices.Reverse(turned[i:k])
			wantSense(t, strings.Join(turned, ""))
		}
	}
}

// TestAnyBytes has texts that are nothing like a function.
func TestAnyBytes(t *testing.T) {
	for b := range 256 {
		for _, n := range []int{1, 2, 300, api.MaxText} {
			s := strings.Repeat(string([]byte{byte(b)}), n)
			wantFault(t, fmt.Sprint(n, " bytes ", b), s, 1, api.ErrText)
			wantFault(t, fmt.Sprint(n, " bytes ", b, ", behind a head"), ("func arrays 0 cells 0\n" + s)[:min(n+22, api.MaxText)], 2, api.ErrText)
		}
	}
	wantFault(t, "no text", "", 1, api.ErrText)
	wantFault(t, "many types", "func"+strings.Repeat(" int", 16000)+" arrays 0 cells 0\n", 2, api.ErrText)
	wantFault(t, "many spaces", strings.Repeat(" ", 65535)+"\n", 1, api.ErrText)
	wantFault(t, "many digits", "func arrays "+strings.Repeat("1", 65000)+" cells 0\n", 1, api.ErrText)
	wantFault(t, "a phi from nearly everywhere", "func arrays 0 cells 0\nb0:\nv0 = phi int"+strings.Repeat(" b0 v0", 10000)+"\nreturn v0\n", 0, api.ErrForm)
	wantFault(t, "many blocks", "func arrays 0 cells 0\n"+manyBlocks(513), 0, api.ErrForm)
	if f, line, e := text.Parse("func arrays 0 cells 0\n" + manyBlocks(512)); len(f.Blocks) != 512 || line != 0 || e != api.OK {
		t.Errorf("512 blocks: %d, %d, %d", len(f.Blocks), line, e)
	}
}

func manyBlocks(n int) string {
	s := ""
	for i := range n {
		s += fmt.Sprintf("b%d:\ntrap %d\n", i, i)
	}
	return s
}
