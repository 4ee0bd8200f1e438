package text

import (
	"strconv"
	"strings"

	"strake/api"
)

// writer builds a text, line by line. It is for functions that ir.Check finds right: all their numbers have names.
type writer struct{ strings.Builder }

func (w *writer) line(words ...string) {
	for i, word := range words {
		if i > 0 {
			w.WriteByte(' ')
		}
		w.WriteString(word)
	}
	w.WriteByte('\n')
}

func (w *writer) function(f api.Func) {
	words := []string{wordFunc}
	for _, typ := range f.Params {
		words = append(words, nameOf(typeNames(), typ))
	}
	w.line(append(words, wordArrays, strconv.Itoa(f.Arrays), wordCells, strconv.Itoa(f.Cells))...)
	for i, b := range f.Blocks {
		w.line(labelOf(i))
		w.block(b)
	}
}

func (w *writer) block(b api.Block) {
	for _, p := range b.Phis {
		w.phi(p)
	}
	for _, in := range b.Code {
		w.instr(in)
	}
	w.term(b.Term)
}

func (w *writer) phi(p api.Phi) {
	words := []string{valueWord(p.Id), wordMakes, wordPhi, nameOf(typeNames(), p.Type)}
	for i, from := range p.From {
		words = append(words, blockWord(from), valueWord(p.Vals[i]))
	}
	w.line(words...)
}

func (w *writer) instr(in api.Instr) {
	var words []string
	if in.Id != noValue {
		words = append(words, valueWord(in.Id), wordMakes)
	}
	words = append(words, nameOf(operationNames(), in.Op))
	if hasN(in.Op) {
		words = append(words, strconv.Itoa(in.N))
	}
	for _, id := range in.Args {
		words = append(words, valueWord(id))
	}
	w.line(words...)
}

func (w *writer) term(t api.Term) {
	name := nameOf(endNames(), t.Op)
	switch t.Op {
	case api.Jump:
		w.line(name, blockWord(t.To[0]))
	case api.Branch:
		w.line(name, valueWord(t.Val), blockWord(t.To[0]), blockWord(t.To[1]))
	case api.Return:
		w.line(name, valueWord(t.Val))
	case api.Trap:
		w.line(name, strconv.Itoa(t.N))
	}
}
