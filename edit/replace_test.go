package edit_test

import (
	"fmt"
	"math"
	"testing"

	"strake/api"
	"strake/edit"
	"strake/ir"
	"strake/sample"
	"strake/strict"
)

func TestReplace(t *testing.T) {
	with := func(phi1, phi2, less, add, more, out, back string) api.Func {
		return sample.Read(t, "func int arrays 0 cells 0",
			"b0:", "v1 = const 0", "v2 = const 1", "jump b1",
			"b1:", "v3 = phi int "+phi1, "v4 = phi int "+phi2, "v5 = lt "+less, "branch v5 b2 b3",
			"b2:", "v6 = add "+add, "v7 = add "+more, "out "+out, "jump b1",
			"b3:", "v8 = phi int b1 v4", "return "+back)
	}
	f := round(t)
	wantReplace(t, "in instructions", f, 3, 2, with("b0 v1 b2 v6", "b2 v7 b0 v1", "v2 v0", "v2 v2", "v4 v2", "v7", "v8"), api.OK)
	wantReplace(t, "in phis", f, 1, 0, with("b0 v0 b2 v6", "b2 v7 b0 v0", "v3 v0", "v3 v2", "v4 v3", "v7", "v8"), api.OK)
	wantReplace(t, "in one phi, and what makes nothing", f, 7, 4, with("b0 v1 b2 v6", "b2 v4 b0 v1", "v3 v0", "v3 v2", "v4 v3", "v4", "v8"), api.OK)
	wantReplace(t, "in a return", f, 8, 2, with("b0 v1 b2 v6", "b2 v7 b0 v1", "v3 v0", "v3 v2", "v4 v3", "v7", "v2"), api.OK)
	wantReplace(t, "a parameter, by a value behind it", f, 0, 8, with("b0 v1 b2 v6", "b2 v7 b0 v1", "v3 v8", "v3 v2", "v4 v3", "v7", "v8"), api.OK)
	wantReplace(t, "by itself", f, 3, 3, f, api.OK)
	wantReplace(t, "what is used where it comes of, by what comes of it", f, 2, 6, with("b0 v1 b2 v6", "b2 v7 b0 v1", "v3 v0", "v3 v6", "v4 v3", "v7", "v8"), api.OK)
	flags := func(not, end, both string) api.Func {
		return sample.Flagged(t, "b0:", "v1 = not "+not, "v2 = flag 1", "branch "+end+" b1 b1", "b1:", "v3 = phi bool b0 "+both, "return "+both)
	}
	f = flags("v0", "v0", "v2")
	wantReplace(t, "flags in a branch", f, 0, 2, flags("v2", "v2", "v2"), api.OK)
	wantReplace(t, "flags in a phi and a return", f, 2, 1, flags("v0", "v0", "v1"), api.OK)
	wantReplace(t, "what is not used", f, 3, 0, f, api.OK)
}

// TestReplaceTwice: both arguments of an instruction, and all of a phi's.
func TestReplaceTwice(t *testing.T) {
	with := func(val string) api.Func {
		return sample.Read(t, "func bool int int arrays 2 cells 0",
			"b0:", "branch v0 b1 b2", "b1:", "jump b3", "b2:", "jump b3",
			"b3:", "v3 = phi int b1 "+val+" b2 "+val, "v4 = select v0 "+val+" "+val, "store 1 "+val+" "+val, "return "+val)
	}
	wantReplace(t, "twice", with("v1"), 1, 2, with("v2"), api.OK)
}

// TestReplaceLoose: what comes need not be strict.
func TestReplaceLoose(t *testing.T) {
	got, e := edit.Replace(round(t), 1, 7)
	if _, loose := strict.Check(got); e != api.OK || loose != api.ErrUse {
		t.Errorf("error %d, and what comes is %d", e, loose)
	}
}

// TestReplaceErrors: that one is no value comes ahead of types; -1, which ends and instructions have for none, is no value.
func TestReplaceErrors(t *testing.T) {
	f := sample.Whole()
	types := map[int]int{}
	for _, id := range idsOf(t, f) {
		types[id], _ = ir.TypeOf(f, id)
	}
	for _, old := range append(sample.Edges(), 12, 14, 17, 23) {
		for _, now := range append(sample.Edges(), 12, 14, 17, 23) {
			_, isOld := types[old]
			_, isNow := types[now]
			switch {
			case !isOld || !isNow:
				wantReplace(t, "whole", f, old, now, api.Func{}, api.ErrNone)
			case types[old] != types[now]:
				wantReplace(t, "whole", f, old, now, api.Func{}, api.ErrType)
			default:
				wantReplace(t, "whole", f, old, now, plainOf(t, f).replace(old, now).function(t), api.OK)
			}
		}
	}
	for _, id := range []int{math.MinInt, -1, 0, 1} {
		wantReplace(t, "bare", sample.Bare(), id, id, api.Func{}, api.ErrNone)
	}
}

// TestReplaceBusy holds many functions against the chapter's words.
func TestReplaceBusy(t *testing.T) {
	seen := map[api.Errno]int{}
	for seed := range 200 {
		f := sample.Busy(2+seed%30, seed)
		ids := idsOf(t, f)
		next := sample.Numbering(seed)
		for range 40 {
			old, now := ids[next(len(ids))], ids[next(len(ids))]
			is, _ := ir.TypeOf(f, old)
			was, _ := ir.TypeOf(f, now)
			what := fmt.Sprint("seed ", seed)
			if is == was {
				wantReplace(t, what, f, old, now, plainOf(t, f).replace(old, now).function(t), api.OK)
				seen[api.OK]++
			} else {
				wantReplace(t, what, f, old, now, api.Func{}, api.ErrType)
				seen[api.ErrType]++
			}
		}
	}
	if seen[api.OK] < 2000 || seen[api.ErrType] < 1000 {
		t.Errorf("the answers are %v", seen)
	}
}

// TestReplaceGreat has a function of the greatest size, and the greatest Id.
func TestReplaceGreat(t *testing.T) {
	f := filled(2, api.MaxCode-1, api.MaxId-1)
	f.Blocks[0].Code = append(f.Blocks[0].Code, api.Instr{Op: api.OpConst, Id: 7})
	got, e := edit.Replace(f, api.MaxId-1, 7)
	if e != api.OK || len(got.Blocks[0].Code) != len(f.Blocks[0].Code) {
		t.Fatalf("error %d", e)
	}
	if n, _ := ir.Uses(got, 7); n != api.MaxCode-4 {
		t.Errorf("%d uses", n)
	}
	if n, _ := ir.Uses(got, api.MaxId-1); n != 0 {
		t.Errorf("%d uses are left", n)
	}
}
