package affine_test

import (
	"maps"
	"math"
	"slices"
	"testing"

	"strake/affine"
	"strake/api"
	"strake/sample"
)

func wantAt(t *testing.T, s api.Sum, ids, vals []int, want int, wantE api.Errno) {
	t.Helper()
	if got, e := affine.At(s, ids, vals); got != want || e != wantE {
		t.Errorf("At(%v, %v, %v): %d, %d, want %d, %d", s, ids, vals, got, e, want, wantE)
	}
}

// TestAt (P14.3).
func TestAt(t *testing.T) {
	for _, c := range []struct {
		s         api.Sum
		ids, vals []int
		want      int
	}{
		{api.Sum{}, nil, nil, 0},
		{sumOf(7), nil, nil, 7},
		{sumOf(7), []int{3, 4}, []int{8, 9}, 7},
		{sumOf(0, 0, 24, 1, -8), []int{1, 0}, []int{2, 5}, 104},
		{sumOf(0, 0, 24, 1, -8), []int{0, 1}, []int{2, 5}, 8},
		{sumOf(0, 1, -8, 0, 24), []int{9, 1, 7, 0, 8}, []int{1, 5, 1, 2, 1}, 8},
		{sumOf(1, 5, 1, 5, 1, 5, 1), []int{5}, []int{10}, 31},
		{sumOf(1, 5, 1), []int{5}, []int{0}, 1},
		{sumOf(1, 5, 0, 6, 1, 6, -1), nil, nil, 1},
		{sumOf(1, 5, 0, 6, 1, 6, -1), []int{7}, []int{3}, 1},
		{sumOf(1, 5, 1), []int{-1, -2, 5, math.MinInt, math.MaxInt}, []int{1, 1, 10, 1, 1}, 11},
		{sumOf(math.MaxInt, 5, 1), []int{5}, []int{1}, math.MinInt},
		{sumOf(0, 5, math.MinInt), []int{5}, []int{3}, math.MinInt},
		{sumOf(0, 5, math.MinInt), []int{5}, []int{2}, 0},
		{sumOf(5, 5, 1<<32, 6, -1), []int{5, 6}, []int{1 << 32, math.MinInt}, math.MinInt + 5},
	} {
		wantAt(t, c.s, c.ids, c.vals, c.want, api.OK)
	}
}

// TestAtErrors (P14.3).
func TestAtErrors(t *testing.T) {
	s := sumOf(3, 5, 1, 6, 2)
	wantAt(t, s, nil, nil, 0, api.ErrNone)
	wantAt(t, s, []int{5}, []int{1}, 0, api.ErrNone)
	wantAt(t, s, []int{6}, []int{1}, 0, api.ErrNone)
	wantAt(t, s, []int{7, 5, 4}, []int{1, 1, 1}, 0, api.ErrNone)
	wantAt(t, s, []int{5, 6}, []int{1}, 0, api.ErrArg)
	wantAt(t, s, []int{5, 6}, nil, 0, api.ErrArg)
	wantAt(t, s, []int{5, 6}, []int{1, 2, 3}, 0, api.ErrArg)
	wantAt(t, s, nil, []int{1}, 0, api.ErrArg)
	wantAt(t, s, []int{5, 5, 6}, []int{1, 1, 2}, 0, api.ErrArg)
	wantAt(t, s, []int{5, 6, 5}, []int{1, 2, 3}, 0, api.ErrArg)
	wantAt(t, s, []int{5, 6, 9, 9}, []int{1, 2, 3, 3}, 0, api.ErrArg)
	wantAt(t, s, []int{5, 6, -1, -1}, []int{1, 2, 3, 3}, 0, api.ErrArg)
	wantAt(t, s, []int{9, 9}, []int{1, 2}, 0, api.ErrArg) // ahead of there being no value (R2)
	wantAt(t, s, []int{9}, nil, 0, api.ErrArg)
	wantAt(t, sumOf(3), []int{0, 0}, []int{1, 1}, 0, api.ErrArg)
	wantAt(t, sumOf(3), []int{0}, nil, 0, api.ErrArg)
	wantAt(t, sumOf(3, -1, 1), []int{-1}, []int{1}, 0, api.ErrArg)
	wantAt(t, sumOf(3, -1, 0), nil, nil, 0, api.ErrArg)
	wantAt(t, sumOf(3, -1, 1), nil, nil, 0, api.ErrArg)
	wantAt(t, sumOf(3, 4, 1, -1, 1), []int{9}, []int{1}, 0, api.ErrArg)
	wantAt(t, many(65, 0, 1), nil, nil, 0, api.ErrArg)
	wantAt(t, many(64, 0, 1), nil, nil, 0, api.ErrNone)
}

// TestAtPlain (P14.3) has sums of all forms, with a value for each part, more than these, and one less.
func TestAtPlain(t *testing.T) {
	edges := sample.Edges()
	for i, s := range sums() {
		p := plainOf(s)
		ids := slices.Sorted(maps.Keys(p.coefs))
		if i%2 == 0 {
			slices.Reverse(ids)
		}
		var vals []int
		want := p.number
		for k, id := range ids {
			vals = append(vals, edges[(7*k+i)%len(edges)]+k)
			want += p.coefs[id] * uint64(vals[k])
		}
		e := errorOf(s)
		if e != api.OK {
			want = 0
		}
		wantAt(t, s, ids, vals, int(want), e)
		wantAt(t, s, append([]int{2000, -3}, ids...), append([]int{5, 6}, vals...), int(want), e)
		if len(ids) > 0 {
			lacks := e
			if e == api.OK {
				lacks = api.ErrNone
			}
			wantAt(t, s, ids[1:], vals[1:], 0, lacks)
			wantAt(t, s, ids[1:], vals, 0, api.ErrArg)
			wantAt(t, s, append(ids, ids[0]), append(vals, vals[0]), 0, api.ErrArg)
		}
	}
}

// TestAtLong has many values, of which one stands twice or none.
func TestAtLong(t *testing.T) {
	ids, vals := make([]int, 100000), make([]int, 100000)
	for i := range ids {
		ids[i], vals[i] = i, 3*i
	}
	s := sumOf(1, 99999, 2, 0, 5, 777, -1)
	wantAt(t, s, ids, vals, 1+2*299997-2331, api.OK)
	for _, at := range []int{0, 5, 99998} {
		ids[at] = 99999
		wantAt(t, s, ids, vals, 0, api.ErrArg)
		ids[at] = at
	}
	ids[777] = -777
	wantAt(t, s, ids, vals, 0, api.ErrNone)
}
