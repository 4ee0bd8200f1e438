package text_test

import (
	"fmt"
	"math"
	"strings"
	"testing"

	"strake/api"
	"strake/sample"
	"strake/text"
)

func wantParse(t *testing.T, what, s string, want api.Func) {
	t.Helper()
	if f, line, e := text.Parse(s); !sample.Same(f, want) || line != 0 || e != api.OK {
		t.Errorf("%s: Parse answers %v, %d, %d, want %v", what, f, line, e, want)
	}
}

func wantFault(t *testing.T, what, s string, wantLine int, want api.Errno) {
	t.Helper()
	if f, line, e := text.Parse(s); !sample.Same(f, api.Func{}) || line != wantLine || e != want {
		t.Errorf("%s: Parse answers %v, %d, %d, want error %d at %d", what, f, line, e, want, wantLine)
	}
}

func TestParse(t *testing.T) {
	wantParse(t, "rich", rich(), sample.Rich())
	wantParse(t, "bare", lines("func arrays 0 cells 0", "b0:", "trap 0"), sample.Bare())
	wantParse(t, "the chapter's example", lines(small()...), api.Func{Params: []int{api.Int}, Blocks: []api.Block{{
		Code: []api.Instr{{Op: api.OpConst, Id: 1, N: 5}, {Op: api.OpAdd, Id: 2, Args: []int{0, 1}}},
		Term: sample.Return(2),
	}}})
	for _, n := range []int{math.MinInt, math.MinInt + 1, -10, -1, 0, 1, 10, 100, math.MaxInt} {
		f := sample.Bare()
		f.Blocks[0].Code = []api.Instr{{Op: api.OpConst, Id: 0, N: n}}
		s := lines("func arrays 0 cells 0", "b0:", fmt.Sprint("v0 = const ", n), "trap 0")
		wantParse(t, fmt.Sprint("const ", n), s, f)
		wantPrint(t, fmt.Sprint("const ", n), f, s, api.OK)
	}
}

func TestExample(t *testing.T) {
	change := func(from, to string) string { return strings.Replace(lines(small()...), from, to, 1) }
	wantFault(t, "v2 = add v0", change("add v0 v1", "add v0"), 4, api.ErrText)
	wantFault(t, "return v3", change("return v2", "return v3"), 0, api.ErrUse)
	wantFault(t, "without the last line", change("return v2\n", ""), 5, api.ErrText)
}

func TestParseLong(t *testing.T) {
	f, s := long(t, api.MaxText)
	wantParse(t, "65536 bytes", s, f)
	_, s = long(t, api.MaxText+1)
	wantFault(t, "65537 bytes", s, 0, api.ErrLong)
	wantFault(t, "65536 bytes of nothing", strings.Repeat("\n", 65536), 1, api.ErrText)
	wantFault(t, "65537 bytes of nothing", strings.Repeat("\n", 65537), 0, api.ErrLong)
	wantFault(t, "65536 bytes without a line's end", strings.Repeat("\xff", 65536), 1, api.ErrText)
}

// TestParseCut: behind each line, and in the midst of each, the text is cut off.
func TestParseCut(t *testing.T) {
	all := strings.SplitAfter(strings.TrimSuffix(rich(), "\n"), "\n")
	s := ""
	for i, line := range all {
		whole := strings.TrimSuffix(line, "\n") + "\n"
		for n := range len(whole) {
			want := i + 1 // the line that has no end, or is missing
			if n == 0 && i > 0 && isEnd(all[i-1]) {
				want = 0 // whole blocks
			}
			if want != 0 {
				wantFault(t, fmt.Sprintf("cut at %d of line %d", n, i+1), s+whole[:n], want, api.ErrText)
			} else if _, at, e := text.Parse(s); at != 0 || e == api.ErrText {
				t.Errorf("cut behind line %d: %d at %d", i, e, at)
			}
		}
		s += whole
	}
	if s != rich() {
		t.Error("the whole was not come to")
	}
}

func isEnd(line string) bool {
	name, _, _ := strings.Cut(line, " ")
	return name == "jump" || name == "branch" || name == "return" || name == "trap"
}

// TestEachLineInEachPlace puts every kind of line behind every kind of line.
func TestEachLineInEachPlace(t *testing.T) {
	head := "func int bool arrays 2 cells 3"
	instr, phi, end, none := "set 0 v0", "v2 = phi int", "return v0", ""
	for _, c := range []struct {
		ahead []string
		may   string // those of h, 0 (label b0), 1 (label b1), p, i, e that may stand next
	}{
		{nil, "h"},
		{[]string{head}, "0"},
		{[]string{head, "b0:"}, "pie"},
		{[]string{head, "b0:", phi}, "pie"},
		{[]string{head, "b0:", phi, phi}, "pie"},
		{[]string{head, "b0:", instr}, "ie"},
		{[]string{head, "b0:", phi, instr}, "ie"},
		{[]string{head, "b0:", phi, instr, instr}, "ie"},
		{[]string{head, "b0:", end}, "1"},
		{[]string{head, "b0:", phi, instr, end}, "1"},
		{[]string{head, "b0:", end, "b1:"}, "pie"},
		{[]string{head, "b0:", end, "b1:", instr}, "ie"},
		{[]string{head, "b0:", instr, end, "b1:", phi}, "pie"},
	} {
		for kind, line := range map[string]string{"h": head, "0": "b0:", "1": "b1:", "2": "b2:", "p": phi, "i": instr, "e": end, "none": none} {
			s := ""
			for _, l := range c.ahead {
				s += l + "\n"
			}
			what := fmt.Sprintf("%q behind %q", line, s)
			at := len(c.ahead) + 1
			_, got, e := text.Parse(s + line + "\n")
			if !strings.Contains(c.may, kind) {
				wantFault(t, what, s+line+"\n", at, api.ErrText)
			} else if e == api.ErrText && got != at+1 || e != api.ErrText && got != 0 || kind != "e" && e != api.ErrText {
				t.Errorf("%s: %d at %d", what, e, got)
			}
		}
	}
}

// TestLines has lines that stand right, and some that do not, for the first, a label, and a block's lines.
func TestLines(t *testing.T) {
	const head, first, phi = 1, 2, 3
	for at, wrong := range map[int][]string{
		head: {
			"", " ", "func", "func arrays 0", "func arrays 0 cells", "func arrays cells 0", "func arrays 0 cells 0 ", " func arrays 0 cells 0",
			"func  arrays 0 cells 0", "func arrays  0 cells 0", "func arrays 0 cells 0 int", "func cells 0 arrays 0", "func Int arrays 0 cells 0",
			"func intbool arrays 0 cells 0", "func int,bool arrays 0 cells 0", "func 1 arrays 0 cells 0", "Func arrays 0 cells 0", "function arrays 0 cells 0",
			"func arrays 00 cells 0", "func arrays +1 cells 0", "func arrays -0 cells 0", "func arrays 0x1 cells 0", "func arrays 1_0 cells 0",
			"func arrays 1. cells 0", "func arrays 0 cells 9223372036854775808", "func arrays -9223372036854775809 cells 0", "func arrays v0 cells 0",
			"func\tarrays 0 cells 0", "func arrays 0 cells 0\r", "func arrays 0 cells 0\x00", "func arrays ٣ cells 0", "arrays 0 cells 0", "func int", "func int bool",
			"func arrays arrays 0 cells 0", "func arrays 0 int cells 0",
		},
		first: {"", "b", "b0", "b:", "b0 :", " b0:", "b0: ", "b0::", "b1:", "b00:", "b-0:", "b+0:", "B0:", "v0:", "0:", "b0:b0:", "b 0:", "b0:\r", "b0: return v0", "b0;"},
		phi: {
			"v2", "v2 =", "v2 = phi", "v2 = phi int b0", "v2 = phi int b0 v0 b0", "v2 = phi int v0 b0", "v2 = phi int b0 b0", "v2 = phi b0 v0", "v2 = phi 1 b0 v0",
			"v2 = phi int b0 v0 ", "v2 = phi int  b0 v0", "phi int b0 v0", "= phi int b0 v0", "v2 phi int b0 v0", "v2= phi int b0 v0", "v2 =phi int b0 v0", "v2 := phi int b0 v0",
			"v-2 = phi int b0 v0", "v02 = phi int b0 v0", "v = phi int b0 v0", "2 = phi int b0 v0", "b2 = phi int b0 v0", "V2 = phi int b0 v0", "v+2 = phi int b0 v0",
			"v2 = phi int b-1 v0", "v2 = phi int b0 v-1", "v2 = phi int b00 v0", "v2 = phi int b0 v00", "v2 = phi int b9223372036854775808 v0", "v9223372036854775808 = phi int",
			"v2 = phi int bool", "v2 = phi float", "v2 = phi int b0 v0 v1", "v2 = = phi int", "v2 = v2 = phi int", "v2 = Phi int", "v2 = phi int b0v0",
		},
	} {
		for _, line := range wrong {
			s := []string{"func int bool arrays 2 cells 3", "b0:", "v2 = phi int", "return v0"}
			s[at-1] = line
			wantFault(t, fmt.Sprintf("%q", line), lines(s...), at, api.ErrText)
			wantFault(t, fmt.Sprintf("%q, a fault behind", line), lines(append(s, "again")...), at, api.ErrText)
		}
	}
}

// forms are the forms of a block's lines: N is a number, V a value, B a block.
func forms() []string {
	return []string{
		"V = const N", "V = flag N", "V = add V V", "V = sub V V", "V = mul V V", "V = and V V", "V = or V V", "V = xor V V", "V = shl V V", "V = shr V V",
		"V = div V V", "V = rem V V", "V = eq V V", "V = lt V V", "V = below V V", "V = not V", "V = select V V V", "V = len N", "V = load N V",
		"store N V V", "V = fetch N V", "put N V V", "out V", "V = get N", "set N V",
		"jump B", "branch V B B", "return V", "trap N",
	}
}

// spelt writes the words of a form, all with number n.
func spelt(form string, n string) string {
	words := strings.Split(form, " ")
	for i, w := range words {
		words[i] = map[string]string{"N": n, "V": "v" + n, "B": "b" + n}[w]
		if words[i] == "" {
			words[i] = w
		}
	}
	return strings.Join(words, " ")
}

// reads tells whether a line stands right in a block, whatever ir says of it.
func reads(t *testing.T, line string) bool {
	t.Helper()
	s := lines("func int bool arrays 2 cells 3", "b0:", line)
	f, at, e := text.Parse(s)
	if len(f.Blocks) != 0 && e != api.OK {
		t.Errorf("%q: a function beside error %d", line, e)
	}
	switch {
	case e == api.ErrText && at == 3:
		return false
	case e != api.ErrText && at == 0: // an end
		return true
	case e == api.ErrText && at == 4: // its end is missing
		return true
	}
	t.Errorf("%q: %d at %d", line, e, at)
	return false
}

// wantReads also asks for the line among others, and for the number of the line behind it.
func wantReads(t *testing.T, line string, want bool) {
	t.Helper()
	if reads(t, line) != want {
		t.Errorf("%q: reads %v", line, !want)
	}
}

func TestForms(t *testing.T) {
	for _, form := range forms() {
		for _, n := range []string{"0", "1", "7", "10", "1048576", "9223372036854775807"} {
			wantReads(t, spelt(form, n), true)
		}
		for _, n := range []string{"", "-", "+1", "-0", "00", "01", "-01", "9223372036854775808", "-9223372036854775809", "99999999999999999999999", "1 ", " 1", "0x1", "1_0", "1e1", "１", "a"} {
			wantReads(t, spelt(form, n), false)
		}
		words := strings.Split(form, " ")
		for i := range words {
			without := append(append([]string{}, words[:i]...), words[i+1:]...)
			wantReads(t, spelt(strings.Join(without, " "), "1"), false)
			for _, other := range []string{"N", "V", "B", "", "=", "int", "b1:", "-1", "v-1", "b-1", "v01", "V1", "phi", "add", "jump", "Const"} {
				other, was := spelt(other, "1"), spelt(words[i], "1")
				turned := append([]string{}, words...)
				turned[i] = other
				line := spelt(strings.Join(turned, " "), "1")
				good := other == was || words[i] == "N" && other == "-1" || sameForm(line)
				wantReads(t, line, good)
			}
		}
		for _, more := range []string{" ", " v1", " 1", " b1", " =", "\r", "\t", "\x00"} {
			wantReads(t, spelt(form, "1")+more, sameForm(spelt(form, "1")+more))
		}
		wantReads(t, " "+spelt(form, "1"), false)
		wantReads(t, strings.Replace(spelt(form, "1"), " ", "  ", 1), false)
		wantReads(t, strings.Replace(spelt(form, "1"), " ", "\t", 1), false)
		wantReads(t, strings.ToUpper(spelt(form, "1")), false)
	}
}

// sameForm tells whether a line is a form with 1 for each number: another operation of that form, say.
func sameForm(line string) bool {
	for _, form := range forms() {
		if spelt(form, "1") == line {
			return true
		}
	}
	return false
}

// TestMakes: just what makes something has a value ahead.
func TestMakes(t *testing.T) {
	for _, form := range forms() {
		line := spelt(form, "1")
		if behind, ok := strings.CutPrefix(line, "v1 = "); ok {
			wantReads(t, behind, false)
			wantReads(t, "= "+behind, false)
			wantReads(t, "v1 "+behind, false)
		} else {
			wantReads(t, "v1 = "+line, false)
		}
	}
}

// TestFormedBehindTheText: what has the right words, and is no function, is an error of ir.Check, at 0.
func TestFormedBehindTheText(t *testing.T) {
	for _, c := range []struct {
		line, instead string
		want          api.Errno
	}{
		{"func int", "func" + strings.Repeat(" int", 17), api.ErrForm},
		{"arrays 2", "arrays 9", api.ErrForm},
		{"arrays 2", "arrays -1", api.ErrForm},
		{"arrays 2", "arrays 9223372036854775807", api.ErrForm},
		{"cells 3", "cells 65", api.ErrForm},
		{"cells 3", "cells -9223372036854775808", api.ErrForm},
		{"flag 1", "flag 2", api.ErrForm},
		{"flag 1", "flag -1", api.ErrForm},
		{"len 1", "len 2", api.ErrForm},
		{"len 1", "len -1", api.ErrForm},
		{"store 1", "store 9223372036854775807", api.ErrForm},
		{"set 2", "set 3", api.ErrForm},
		{"trap 3", "trap -1", api.ErrForm},
		{"v2 = const", "v1 = const", api.ErrForm},
		{"v2 = const", "v1048576 = const", api.ErrForm},
		{"v2 = const", "v9223372036854775807 = const", api.ErrForm},
		{"jump b1", "jump b0", api.ErrForm},
		{"jump b1", "jump b7", api.ErrForm},
		{"jump b1", "jump b9223372036854775807", api.ErrForm},
		{"phi int b0 v2 b2", "phi int b0 v2 b0", api.ErrForm},
		{"phi int b0 v2 b2", "phi int b0 v2 b7", api.ErrForm},
		{"b0:", "b0:\nv26 = phi int", api.ErrForm},
		{"add v0 v2", "add v0 v26", api.ErrUse},
		{"out v20", "out v9223372036854775807", api.ErrUse},
		{"add v0 v2", "add v0 v1", api.ErrType},
		{"branch v24", "branch v0", api.ErrType},
		{"phi int b0 v2", "phi int b0 v3", api.ErrType},
	} {
		wantFault(t, c.instead, strings.Replace(rich(), c.line, c.instead, 1), 0, c.want)
		// What does not stand right comes ahead of what is no function.
		wantFault(t, c.instead+", a fault behind", strings.Replace(rich(), c.line, c.instead, 1)+"\n", 1+strings.Count(c.instead, "\n")+strings.Count(rich(), "\n"), api.ErrText)
	}
}
