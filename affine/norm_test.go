package affine_test

import (
	"fmt"
	"math"
	"slices"
	"testing"

	"strake/affine"
	"strake/api"
	"strake/sample"
)

// TestNorm (P14.1).
func TestNorm(t *testing.T) {
	for _, c := range []struct{ s, want api.Sum }{
		{api.Sum{}, api.Sum{}},
		{sumOf(7), sumOf(7)},
		{sumOf(math.MinInt, 3, 1), sumOf(math.MinInt, 3, 1)},
		{sumOf(1, 9, 2, 3, -1, 0, 4), sumOf(1, 0, 4, 3, -1, 9, 2)},
		{sumOf(1, 5, 2, 3, 1, 5, 3, 3, 1, 5, 1), sumOf(1, 3, 2, 5, 6)},
		{sumOf(0, 5, 2, 5, -2), sumOf(0)},
		{sumOf(0, 5, 2, 6, 1, 5, -2), sumOf(0, 6, 1)},
		{sumOf(4, 5, 0, 6, 0, 7, 1, 8, 0), sumOf(4, 7, 1)},
		{sumOf(4, 5, 0), sumOf(4)},
		{sumOf(4, 5, 2, 5, -2, 5, 3), sumOf(4, 5, 3)},
		{sumOf(0, 5, 1<<62, 5, 1<<62), sumOf(0, 5, math.MinInt)},
		{sumOf(0, 5, math.MinInt, 5, math.MinInt), sumOf(0)},
		{sumOf(0, 5, math.MaxInt, 5, 1, 4, math.MinInt, 4, -1), sumOf(0, 4, math.MaxInt, 5, math.MinInt)},
		{sumOf(0, math.MaxInt, 1, 0, 1, api.MaxId, 1), sumOf(0, 0, 1, api.MaxId, 1, math.MaxInt, 1)},
	} {
		got, e := affine.Norm(c.s)
		wantSum(t, fmt.Sprint("Norm of ", c.s), got, e, c.want, api.OK)
	}
}

// TestNormBelow (P14.1): an Id below 0 is an error, even if it does not count.
func TestNormBelow(t *testing.T) {
	for _, id := range []int{-1, -2, -1 << 20, math.MinInt} {
		for _, s := range []api.Sum{sumOf(1, id, 1), sumOf(1, id, 0), sumOf(1, id, 1, id, -1), sumOf(1, 3, 1, 4, 1, id, 1), sumOf(1, id, 1, 3, 1), sumOf(0, 3, 1, id, 2, 4, 1)} {
			got, e := affine.Norm(s)
			wantSum(t, fmt.Sprint("Norm of ", s), got, e, api.Sum{}, api.ErrArg)
		}
	}
}

// TestNormMany (P14.1): as many parts as may be are counted when what is one is one.
func TestNormMany(t *testing.T) {
	for _, parts := range []int{1, 63, 64, 65, 66, 128, 1000} {
		for _, s := range []api.Sum{many(parts, 0, 1), many(parts, 3*parts, -3)} {
			want, wantE := plainOf(s).sum(), api.OK
			if parts > 64 {
				want, wantE = api.Sum{}, api.ErrArg
			}
			got, e := affine.Norm(s)
			wantSum(t, fmt.Sprint(parts, " parts"), got, e, want, wantE)
			s.Parts = slices.Concat(s.Parts, s.Parts, s.Parts)
			if wantE == api.OK {
				want = plainOf(s).sum()
			}
			got, e = affine.Norm(s)
			wantSum(t, fmt.Sprint(parts, " parts, three times"), got, e, want, wantE)
		}
	}
	s := many(64, 0, 1)
	s.Parts = append(s.Parts, api.Part{Id: 70}, api.Part{Id: 71, Coef: 3}, api.Part{Id: 71, Coef: -3}, api.Part{Id: 65})
	got, e := affine.Norm(s)
	wantSum(t, "64 parts, and some that do not count", got, e, many(64, 0, 1), api.OK)
	s.Parts = slices.Repeat([]api.Part{{Id: 3, Coef: 2}, {Id: 1, Coef: -2}}, 100000)
	got, e = affine.Norm(s)
	wantSum(t, "two parts again and again", got, e, sumOf(64, 1, -200000, 3, 200000), api.OK)
}

// TestNormPlain (P14.1) holds sums of all forms against the plain words.
func TestNormPlain(t *testing.T) {
	seen := map[api.Errno]int{}
	for _, s := range sums() {
		want, wantE := plainOf(s).sum(), errorOf(s)
		if wantE != api.OK {
			want = api.Sum{}
		}
		got, e := affine.Norm(s)
		wantSum(t, fmt.Sprint("Norm of ", s), got, e, want, wantE)
		seen[e]++
		if e == api.OK {
			again, e := affine.Norm(got)
			wantSum(t, fmt.Sprint("Norm again of ", s), again, e, got, api.OK)
		}
	}
	if seen[api.OK] < 30 || seen[api.ErrArg] < 30 {
		t.Errorf("just %d have a normal form, and %d have none", seen[api.OK], seen[api.ErrArg])
	}
}

// TestAdd (P14.1).
func TestAdd(t *testing.T) {
	for _, c := range []struct {
		list []api.Sum
		want api.Sum
	}{
		{nil, api.Sum{}},
		{[]api.Sum{{}}, api.Sum{}},
		{[]api.Sum{sumOf(3, 5, 1, 4, 2)}, sumOf(3, 4, 2, 5, 1)},
		{[]api.Sum{sumOf(1, 5, 2, 3, 1), sumOf(-4, 5, -2, 3, 1, 9, 0)}, sumOf(-3, 3, 2)},
		{[]api.Sum{sumOf(math.MaxInt, 1, math.MaxInt), sumOf(1, 1, 1)}, sumOf(math.MinInt, 1, math.MinInt)},
		{[]api.Sum{sumOf(math.MinInt, 1, math.MinInt), sumOf(math.MinInt, 1, math.MinInt)}, api.Sum{}},
		{[]api.Sum{sumOf(1, 7, 1), sumOf(2, 6, 1), sumOf(4, 5, 1), sumOf(8, 7, 2)}, sumOf(15, 5, 1, 6, 1, 7, 3)},
		{[]api.Sum{sumOf(1, 7, 1), sumOf(2), {}, sumOf(0, 7, -1)}, sumOf(3)},
	} {
		got, e := affine.Add(c.list...)
		wantSum(t, fmt.Sprint("Add of ", c.list), got, e, c.want, api.OK)
	}
}

// TestAddMany (P14.1): what comes may not have too many parts; how many there are on the way does not matter.
func TestAddMany(t *testing.T) {
	low, high := many(64, 0, 1), many(64, 100, 1)
	less, _ := affine.Scale(high, -1)
	for _, c := range []struct {
		what  string
		list  []api.Sum
		wantE api.Errno
	}{
		{"64 and 1", []api.Sum{low, sumOf(0, 64, 1)}, api.ErrArg},
		{"1 and 64", []api.Sum{sumOf(0, 64, 1), low}, api.ErrArg},
		{"64 and one of them", []api.Sum{low, sumOf(0, 63, 1)}, api.OK},
		{"64 and one for another", []api.Sum{low, sumOf(0, 64, 1, 0, -5)}, api.OK},
		{"63 and 1", []api.Sum{many(63, 0, 1), sumOf(0, 64, 1)}, api.OK},
		{"64 and 64", []api.Sum{low, high}, api.ErrArg},
		{"64 and 64, less these", []api.Sum{low, high, less}, api.OK},
		{"less 64, and 64, and these", []api.Sum{less, low, high}, api.OK},
		{"64 and a number", []api.Sum{low, sumOf(9)}, api.OK},
	} {
		want := plain{}
		for _, s := range c.list {
			want = mixed(want, 1, plainOf(s), 1)
		}
		if c.wantE != api.OK {
			want = plain{}
		}
		got, e := affine.Add(c.list...)
		wantSum(t, c.what, got, e, want.sum(), c.wantE)
	}
	var list []api.Sum
	for i := range 1000 {
		list = append(list, many(1+i%64, i%30, 1))
	}
	got, e := affine.Add(list...)
	wantSum(t, "a thousand sums, of too many values in all", got, e, api.Sum{}, api.ErrArg)
	for _, s := range list {
		less, _ := affine.Scale(s, -1)
		list = append(list, less)
	}
	got, e = affine.Add(append(list, low)...)
	wantSum(t, "a thousand sums, less these, and one more", got, e, low, api.OK)
}

// TestAddWrong (P14.1): one that has no normal form is an error wherever it stands, whatever else would come.
func TestAddWrong(t *testing.T) {
	for _, wrong := range []api.Sum{sumOf(0, -1, 1), sumOf(0, -1, 0), many(65, 0, 1)} {
		less := wrong
		less.Parts = slices.Clone(wrong.Parts)
		for i := range less.Parts {
			less.Parts[i].Coef *= -1
		}
		for _, list := range [][]api.Sum{{wrong}, {wrong, {}}, {{}, wrong}, {wrong, less}, {sumOf(1, 2, 3), wrong, sumOf(1, 4, 5)}, {sumOf(1), sumOf(2), sumOf(3), wrong}} {
			got, e := affine.Add(list...)
			wantSum(t, fmt.Sprint("Add of ", list), got, e, api.Sum{}, api.ErrArg)
		}
	}
}

// TestAddPlain (P14.1) adds two, three and four of all forms.
func TestAddPlain(t *testing.T) {
	all := sums()
	seen := map[api.Errno]int{}
	for i, a := range all {
		for k, b := range all {
			list := []api.Sum{a, b, all[(3*i+k)%len(all)], all[(i+5*k)%len(all)]}[:2+(i+k)%3]
			want, wantE := plain{}, api.OK
			for _, s := range list {
				want, wantE = mixed(want, 1, plainOf(s), 1), max(wantE, errorOf(s))
			}
			wantE = max(wantE, errorOf(want.sum()))
			if wantE != api.OK {
				want = plain{}
			}
			got, e := affine.Add(list...)
			wantSum(t, fmt.Sprint("sums ", i, " and ", k), got, e, want.sum(), wantE)
			seen[e]++
		}
	}
	if seen[api.OK] < 1000 || seen[api.ErrArg] < 1000 {
		t.Errorf("just %d could be added, and %d could not", seen[api.OK], seen[api.ErrArg])
	}
}

// TestScale (P14.1).
func TestScale(t *testing.T) {
	for _, c := range []struct {
		s    api.Sum
		k    int
		want api.Sum
	}{
		{api.Sum{}, 5, api.Sum{}},
		{sumOf(3, 5, 1, 4, -2), 3, sumOf(9, 4, -6, 5, 3)},
		{sumOf(3, 5, 1, 4, -2), -1, sumOf(-3, 4, 2, 5, -1)},
		{sumOf(3, 5, 1, 4, -2), 1, sumOf(3, 4, -2, 5, 1)},
		{sumOf(3, 5, 1, 4, -2), 0, api.Sum{}},
		{sumOf(3, 1, 1<<62), 4, sumOf(12)},
		{sumOf(3, 1, 1<<62, 2, 3), 2, sumOf(6, 1, math.MinInt, 2, 6)},
		{sumOf(3, 1, 2, 2, 3, 4, 4), math.MinInt, sumOf(math.MinInt, 2, math.MinInt)},
		{sumOf(1<<62+1, 6, 1, 6, 2, 6, -3, 7, 1<<62+1), 4, sumOf(4, 7, 4)},
		{sumOf(math.MinInt, 3, math.MinInt), -1, sumOf(math.MinInt, 3, math.MinInt)},
	} {
		got, e := affine.Scale(c.s, c.k)
		wantSum(t, fmt.Sprint(c.k, " times ", c.s), got, e, c.want, api.OK)
	}
}

// TestScalePlain (P14.1): what has no normal form is an error, whatever it is to be multiplied by.
func TestScalePlain(t *testing.T) {
	for _, s := range sums() {
		for _, k := range append(sample.Edges(), 1<<62, 1<<61, -1<<62, 1<<32) {
			want, wantE := mixed(plain{}, 0, plainOf(s), uint64(k)), errorOf(s)
			if wantE != api.OK {
				want = plain{}
			}
			got, e := affine.Scale(s, k)
			wantSum(t, fmt.Sprint(k, " times ", s), got, e, want.sum(), wantE)
		}
	}
}
