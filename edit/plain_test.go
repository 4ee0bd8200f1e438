package edit_test

import (
	"slices"
	"sort"
	"strconv"
	"strings"
	"testing"

	"strake/api"
	"strake/sample"
	"strake/text"
)

// plain is a function's text by its words, which the chapter's words are done to: its first line, and of each block the
// lines behind the label.
type plain struct {
	head   []string
	blocks [][][]string
}

// plainOf takes a function that a text may hold.
func plainOf(t *testing.T, f api.Func) plain {
	t.Helper()
	s, e := text.Print(f)
	if e != api.OK {
		t.Fatalf("error %d", e)
	}
	lines := strings.Split(strings.TrimSuffix(s, "\n"), "\n")
	p := plain{head: strings.Split(lines[0], " ")}
	for _, line := range lines[1:] {
		if strings.HasSuffix(line, ":") {
			p.blocks = append(p.blocks, nil)
			continue
		}
		last := len(p.blocks) - 1
		p.blocks[last] = append(p.blocks[last], strings.Split(line, " "))
	}
	return p
}

func (p plain) function(t *testing.T) api.Func {
	t.Helper()
	lines := []string{strings.Join(p.head, " ")}
	for b, block := range p.blocks {
		lines = append(lines, blockName(b)+":")
		for _, words := range block {
			lines = append(lines, strings.Join(words, " "))
		}
	}
	return sample.Read(t, lines...)
}

func blockName(b int) string { return "b" + strconv.Itoa(b) }

func valueName(id int) string { return "v" + strconv.Itoa(id) }

// numberIn is the K of a word vK or bK.
func numberIn(word string) int {
	n, _ := strconv.Atoi(word[1:])
	return n
}

func makes(words []string) bool { return len(words) > 1 && words[1] == "=" }

func isPhi(words []string) bool { return makes(words) && words[2] == "phi" }

// pairsAt is where a phi's pairs of a block and a value begin.
const pairsAt = 4

// turned is what stands for a word, or the word.
func turned(names map[string]string, word string) string {
	if now, ok := names[word]; ok {
		return now
	}
	return word
}

func (p plain) params() int { return len(p.head) - len([]string{"func", "arrays", "A", "cells", "C"}) }

func (p plain) replace(old, now int) plain {
	for _, block := range p.blocks {
		for _, words := range block {
			for i, word := range words {
				if word == valueName(old) && !(i == 0 && makes(words)) {
					words[i] = valueName(now)
				}
			}
		}
	}
	return p
}

// made are the words of the values that blocks make, in order.
func made(blocks [][][]string) []string {
	var all []string
	for _, block := range blocks {
		for _, words := range block {
			if makes(words) {
				all = append(all, words[0])
			}
		}
	}
	return all
}

func (p plain) clone(blocks []int) plain {
	next := p.params()
	for _, word := range made(p.blocks) {
		next = max(next, numberIn(word)+1)
	}
	names := map[string]string{}
	var copied [][][]string
	for i, b := range blocks {
		names[blockName(b)] = blockName(len(p.blocks) + i)
		copied = append(copied, p.blocks[b])
	}
	for _, word := range made(copied) {
		names[word] = valueName(next)
		next++
	}
	all := slices.Clone(p.blocks)
	for b := range p.blocks {
		if !slices.Contains(blocks, b) {
			all[b] = comingFrom(p.blocks[b], blocks, names)
		}
	}
	for _, b := range blocks {
		all = append(all, copyOf(p.blocks[b], names))
	}
	return plain{p.head, all}
}

// comingFrom is a block whose phis have more from copies.
func comingFrom(block [][]string, blocks []int, names map[string]string) [][]string {
	var all [][]string
	for _, words := range block {
		if words = slices.Clone(words); isPhi(words) {
			pairs := words[pairsAt:]
			for _, b := range blocks {
				if at := slices.Index(pairs, blockName(b)); at >= 0 {
					words = append(words, names[pairs[at]], turned(names, pairs[at+1]))
				}
			}
		}
		all = append(all, words)
	}
	return all
}

func copyOf(block [][]string, names map[string]string) [][]string {
	var all [][]string
	for _, words := range block {
		var now []string
		for i, word := range words {
			_, fromCopy := names[words[i-i%2]]
			if !isPhi(words) || i < pairsAt || fromCopy {
				now = append(now, turned(names, word))
			}
		}
		all = append(all, now)
	}
	return all
}

// order is how the chapter of the ways through a function has its blocks.
func (p plain) order() []int {
	var done []int
	begun := map[int]bool{}
	var visit func(b int)
	visit = func(b int) {
		begun[b] = true
		end := p.blocks[b][len(p.blocks[b])-1]
		for _, word := range end[1:] {
			if to := numberIn(word); word[0] == 'b' && !begun[to] {
				visit(to)
			}
		}
		done = append(done, b)
	}
	visit(0)
	slices.Reverse(done)
	return done
}

func (p plain) rename() plain {
	names := map[string]string{}
	var all [][][]string
	for at, b := range p.order() {
		names[blockName(b)] = blockName(at)
		all = append(all, p.blocks[b])
	}
	for i, word := range made(all) {
		names[word] = valueName(p.params() + i)
	}
	for _, block := range all {
		for _, words := range block {
			for i, word := range words {
				words[i] = turned(names, word)
			}
			if isPhi(words) {
				sort.Sort(pairs(words[pairsAt:]))
			}
		}
	}
	return plain{p.head, all}
}

// pairs are sorted by their blocks.
type pairs []string

func (p pairs) Len() int           { return len(p) / 2 }
func (p pairs) Less(i, j int) bool { return numberIn(p[2*i]) < numberIn(p[2*j]) }
func (p pairs) Swap(i, j int) {
	p[2*i], p[2*j] = p[2*j], p[2*i]
	p[2*i+1], p[2*j+1] = p[2*j+1], p[2*i+1]
}
