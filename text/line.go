package text

import (
	"strconv"
	"strings"

	"strake/api"
	"strake/ir"
)

// words are those of a line that are not yet read; its reader gives up where one does not stand right.
type words struct {
	*reader
	left []string
}

func split(r *reader, line string) *words { return &words{r, strings.Split(line, " ")} }

func (l *words) next() string {
	l.need(len(l.left) > 0)
	word := l.left[0]
	l.left = l.left[1:]
	return word
}

func (l *words) expect(word string) { l.need(l.next() == word) }

func (l *words) finish() { l.need(len(l.left) == 0) }

func (l *words) oneOf(names []string, word string) int {
	n := numberOf(names, word)
	l.need(n != 0)
	return n
}

func (l *words) number() int { return l.toNumber(l.next()) }

// toNumber takes a number only as it is written: strconv would take a plus, and noughts ahead.
func (l *words) toNumber(word string) int {
	n, err := strconv.Atoi(word)
	l.need(err == nil && strconv.Itoa(n) == word)
	return n
}

// marked reads the number of a value or of a block.
func (l *words) marked(mark string) int {
	digits, ok := strings.CutPrefix(l.next(), mark)
	l.need(ok)
	n := l.toNumber(digits)
	l.need(n >= 0)
	return n
}

func (l *words) value() int { return l.marked(valueMark) }

func (l *words) block() int { return l.marked(blockMark) }

// made reads which value a line makes, if it says that it makes one.
func (l *words) made() int {
	if len(l.left) < 2 || l.left[1] != wordMakes {
		return noValue
	}
	id := l.value()
	l.expect(wordMakes)
	return id
}

func (l *words) phi(id int) api.Phi {
	l.need(id != noValue)
	p := api.Phi{Id: id, Type: l.oneOf(typeNames(), l.next())}
	for len(l.left) > 0 {
		p.From = append(p.From, l.block())
		p.Vals = append(p.Vals, l.value())
	}
	return p
}

func (l *words) instr(id, op int) api.Instr {
	makes, takes, _ := ir.Args(op)
	l.need((id != noValue) == (makes != 0))
	in := api.Instr{Op: op, Id: id}
	if hasN(op) {
		in.N = l.number()
	}
	for range takes {
		in.Args = append(in.Args, l.value())
	}
	return in
}

func (l *words) term(op int) api.Term {
	t := api.Term{Op: op, Val: noValue}
	switch op {
	case api.Jump:
		t.To = []int{l.block()}
	case api.Branch:
		t.Val = l.value()
		t.To = []int{l.block(), l.block()}
	case api.Return:
		t.Val = l.value()
	case api.Trap:
		t.N = l.number()
	}
	return t
}
