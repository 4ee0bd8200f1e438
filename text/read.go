package text

import (
	"strings"

	"strake/api"
)

// state tells which line may stand next.
type state int

const (
	atHead    state = iota // the first line
	atFirst                // block 0's label: one block must be there
	amongPhis              // a phi, an instruction or an end
	amongCode              // an instruction or an end
	behindEnd              // a label, or nothing more
)

// reader holds the function as far as it is read, and where the reading is.
type reader struct {
	f    api.Func
	at   state
	line int
}

// faultAt is the number of a line that does not stand right; reading is given up by a panic with it.
type faultAt int

// read answers a text's function, or the number of the first line that does not stand right.
func read(s string) (f api.Func, line int) {
	defer func() {
		if fault, ok := recover().(faultAt); ok {
			line = int(fault)
		}
	}()
	var r reader
	r.text(s)
	return r.f, 0
}

// need gives up at the line that is being read, if something does not hold.
func (r *reader) need(holds bool) {
	if !holds {
		panic(faultAt(r.line))
	}
}

func (r *reader) text(s string) {
	for s != "" {
		r.line++
		line, rest, ended := strings.Cut(s, "\n")
		r.need(ended)
		r.read(line)
		s = rest
	}
	// What is missing at the end is missed in the line behind the last.
	r.line++
	r.need(r.at == behindEnd)
}

func (r *reader) read(line string) {
	switch r.at {
	case atHead:
		r.head(split(r, line))
		r.at = atFirst
	case atFirst, behindEnd:
		r.need(line == labelOf(len(r.f.Blocks)))
		r.f.Blocks = append(r.f.Blocks, api.Block{})
		r.at = amongPhis
	case amongPhis, amongCode:
		r.inside(split(r, line))
	}
}

func (r *reader) head(l *words) {
	l.expect(wordFunc)
	word := l.next()
	for word != wordArrays {
		r.f.Params = append(r.f.Params, l.oneOf(typeNames(), word))
		word = l.next()
	}
	r.f.Arrays = l.number()
	l.expect(wordCells)
	r.f.Cells = l.number()
	l.finish()
}

// inside reads a line of the last block: a phi, an instruction or the end.
func (r *reader) inside(l *words) {
	b := &r.f.Blocks[len(r.f.Blocks)-1]
	id := l.made()
	name := l.next()
	end := numberOf(endNames(), name)
	switch {
	case name == wordPhi && r.at == amongPhis:
		b.Phis = append(b.Phis, l.phi(id))
	case end != 0:
		r.need(id == noValue)
		b.Term = l.term(end)
		r.at = behindEnd
	default:
		b.Code = append(b.Code, l.instr(id, l.oneOf(operationNames(), name)))
		r.at = amongCode
	}
	l.finish()
}
