package graph_test

import (
	"fmt"
	"strings"
	"testing"

	"strake/api"
	"strake/ir"
	"strake/sample"
	"strake/text"
)

// parse reads a function of a flag v0; what is told are its lines behind the first.
func parse(t *testing.T, lines ...string) api.Func {
	t.Helper()
	f, line, e := text.Parse("func bool arrays 0 cells 0\n" + strings.Join(lines, "\n") + "\n")
	if e != api.OK {
		t.Fatalf("error %d at line %d of %q", e, line, lines)
	}
	return f
}

// cross has forks, joins, a branch to one block twice, a loop, and blocks that can't be come to, which go to others.
func cross(t *testing.T) api.Func {
	t.Helper()
	return parse(t,
		"b0:", "v1 = const 1", "branch v0 b5 b2",
		"b1:", "v2 = const 2", "jump b3",
		"b2:", "v3 = const 3", "branch v0 b3 b3",
		"b3:", "v4 = phi int b1 v2 b2 v3 b5 v1 b6 v8", "branch v0 b6 b8",
		"b4:", "v5 = phi int b7 v7", "branch v0 b7 b8",
		"b5:", "v6 = const 6", "jump b3",
		"b6:", "v8 = add v4 v4", "branch v0 b3 b6",
		"b7:", "v7 = phi int b4 v5", "jump b4",
		"b8:", "v9 = phi int b4 v5 b3 v4", "return v9",
	)
}

// line is a way of so many blocks that goes from each to the next.
func line(blocks int) api.Func {
	f := api.Func{}
	for b := range blocks - 1 {
		f.Blocks = append(f.Blocks, api.Block{Term: sample.Jump(b + 1)})
	}
	f.Blocks = append(f.Blocks, api.Block{Term: sample.Trap(0)})
	return f
}

// ends are all ends of blocks, as far as graphs of so many blocks have them.
func ends(blocks int) []api.Term {
	all := []api.Term{sample.Return(0)}
	for to := 1; to < blocks; to++ {
		all = append(all, sample.Jump(to))
		for other := 1; other < blocks; other++ {
			all = append(all, sample.Branch(0, to, other))
		}
	}
	return all
}

// eachGraph shows see all graphs of so many blocks. Block b makes value 10 + b, and, but for block 0, phi 20 + b, which is
// v0 from each block, the last one first, whether that one goes to b or not.
func eachGraph(blocks int, see func(what string, f api.Func)) {
	type named struct {
		api.Term
		what string
	}
	var all []named
	for _, end := range ends(blocks) {
		all = append(all, named{end, fmt.Sprint(" ", end.To)})
	}
	f := api.Func{Params: []int{api.Bool}, Blocks: make([]api.Block, blocks)}
	for b := range f.Blocks {
		f.Blocks[b].Code = []api.Instr{{Op: api.OpConst, Id: 10 + b, N: b}}
		p := api.Phi{Id: 20 + b, Type: api.Bool}
		for from := blocks - 1; from >= 0; from-- {
			p.From, p.Vals = append(p.From, from), append(p.Vals, 0)
		}
		if b > 0 {
			f.Blocks[b].Phis = []api.Phi{p}
		}
	}
	var choose func(b int, what string)
	choose = func(b int, what string) {
		if b == blocks {
			see(what, f)
			return
		}
		for _, end := range all {
			f.Blocks[b].Term = end.Term
			choose(b+1, what+end.what)
		}
	}
	choose(0, "blocks go to")
}

func TestEachGraph(t *testing.T) {
	for blocks, want := range map[int]int{1: 1, 2: 9, 3: 343, 4: 28561} {
		n := 0
		eachGraph(blocks, func(what string, f api.Func) {
			n++
			if e := ir.Check(f); e != api.OK {
				t.Fatalf("%s: error %d", what, e)
			}
		})
		if n != want {
			t.Errorf("%d graphs of %d blocks, want %d", n, blocks, want)
		}
	}
}
