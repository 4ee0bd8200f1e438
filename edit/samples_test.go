package edit_test

import (
	"slices"
	"testing"

	"strake/api"
	"strake/edit"
	"strake/ir"
	"strake/sample"
)

// round adds up the numbers below its parameter, and tells the sums.
func round(t *testing.T) api.Func {
	t.Helper()
	return sample.Read(t, "func int arrays 0 cells 0",
		"b0:", "v1 = const 0", "v2 = const 1", "jump b1",
		"b1:", "v3 = phi int b0 v1 b2 v6", "v4 = phi int b2 v7 b0 v1", "v5 = lt v3 v0", "branch v5 b2 b3",
		"b2:", "v6 = add v3 v2", "v7 = add v4 v3", "out v7", "jump b1",
		"b3:", "v8 = phi int b1 v4", "return v8")
}

func wantReplace(t *testing.T, what string, f api.Func, old, now int, want api.Func, wantE api.Errno) {
	t.Helper()
	if got, e := edit.Replace(f, old, now); !sample.Same(got, want) || e != wantE {
		t.Errorf("%s: Replace of %d by %d answers %v, %d, want %v, %d", what, old, now, got, e, want, wantE)
	}
}

func wantClone(t *testing.T, what string, f api.Func, blocks []int, want api.Func, wantCopies []int, wantE api.Errno) {
	t.Helper()
	if got, copies, e := edit.Clone(f, blocks...); !sample.Same(got, want) || !slices.Equal(copies, wantCopies) || e != wantE {
		t.Errorf("%s: Clone of %v answers %v, %v, %d, want %v, %v, %d", what, blocks, got, copies, e, want, wantCopies, wantE)
	}
}

func wantRename(t *testing.T, what string, f, want api.Func, wantE api.Errno) {
	t.Helper()
	if got, e := edit.Rename(f); !sample.Same(got, want) || e != wantE {
		t.Errorf("%s: Rename answers %v, %d, want %v, %d", what, got, e, want, wantE)
	}
}

// wantAlike asks for both orders.
func wantAlike(t *testing.T, what string, f, g api.Func, want bool) {
	t.Helper()
	if one, other := edit.Alike(f, g), edit.Alike(g, f); one != want || other != want {
		t.Errorf("%s: Alike answers %v, and %v the other way round, want %v: %v, %v", what, one, other, want, f, g)
	}
}

// upFrom are so many numbers.
func upFrom(first, n int) []int {
	var all []int
	for i := range n {
		all = append(all, first+i)
	}
	return all
}

// chosen are some of a function's blocks, in an order told by a seed: none, all, or some of them.
func chosen(f api.Func, seed int) []int {
	next := sample.Numbering(seed)
	all := shuffled(upFrom(0, len(f.Blocks)), next)
	return all[:next(len(all)+1)]
}

func shuffled(all []int, next func(below int) int) []int {
	for i := range all {
		k := i + next(len(all)-i)
		all[i], all[k] = all[k], all[i]
	}
	return all
}

// idsOf are a function's values.
func idsOf(t *testing.T, f api.Func) []int {
	t.Helper()
	ids, e := ir.Ids(f)
	if e != api.OK {
		t.Fatalf("error %d", e)
	}
	return ids
}

// filled is a line of so many blocks that has that size: its first block makes a value, and tells it again and again.
func filled(blocks, size, id int) api.Func {
	f := sample.Line(blocks)
	code := &f.Blocks[0].Code
	*code = append(*code, api.Instr{Op: api.OpConst, Id: id, N: 5})
	for range size - blocks - 1 {
		*code = append(*code, api.Instr{Op: api.OpOut, Id: -1, Args: []int{id}})
	}
	return f
}
