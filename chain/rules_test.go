package chain_test

import (
	"fmt"
	"math"
	"slices"
	"strconv"
	"testing"

	"strake/api"
	"strake/chain"
	"strake/sample"
)

// calls are all calls that answer a chain, of two lists.
func calls() map[string]func(a, b []int) ([]int, api.Errno) {
	return map[string]func(a, b []int) ([]int, api.Errno){
		"Trim":        func(a, b []int) ([]int, api.Errno) { return chain.Trim(a), api.OK },
		"Next":        func(a, b []int) ([]int, api.Errno) { return chain.Next(a), api.OK },
		"Add":         func(a, b []int) ([]int, api.Errno) { return chain.Add(a, b) },
		"Add of one":  func(a, b []int) ([]int, api.Errno) { return chain.Add(a) },
		"Add of many": func(a, b []int) ([]int, api.Errno) { return chain.Add(a, b, a, b, nil, a) },
		"Mul":         chain.Mul,
		"Mul of one":  func(a, b []int) ([]int, api.Errno) { return chain.Mul(a, []int{1}) },
		"Sums":        func(a, b []int) ([]int, api.Errno) { return chain.Sums(len(b), a) },
		"Fit":         func(a, b []int) ([]int, api.Errno) { return chain.Fit(a) },
	}
}

// eachCall shows see all that comes of a call, and what it was.
func eachCall(t *testing.T, a, b []int, see func(what string, got []int, e api.Errno)) {
	t.Helper()
	for name, call := range calls() {
		func() {
			defer func() {
				if r := recover(); r != nil {
					t.Errorf("%s of %d and %d numbers: panic: %v", name, len(a), len(b), r)
				}
			}()
			got, e := call(a, b)
			see(name+" of "+strconv.Itoa(len(a))+" and "+strconv.Itoa(len(b)), got, e)
		}()
	}
}

// TestAnyArgument has lists of all lengths of each edge, and of others (R1): what comes is trimmed and no longer than may be,
// or nothing beside ErrArg (R3).
func TestAnyArgument(t *testing.T) {
	lengths := []int{0, 1, 2, 3, 7, 8, 9, 15, 16, 17, 18, 31, 32, 33, 64, 1000}
	for i, edge := range sample.Edges() {
		for k, length := range lengths {
			a, b := slices.Repeat([]int{edge}, length), seededList(lengths[(i+k)%len(lengths)], i)
			for _, two := range [][2][]int{{a, b}, {b, a}, {a, a}, {a, nil}, {nil, a}} {
				eachCall(t, two[0], two[1], func(what string, got []int, e api.Errno) {
					switch {
					case e != api.OK && (e != api.ErrArg || len(got) > 0):
						t.Errorf("%s: %v, %d", what, got, e)
					case plainLength(got) < len(got):
						t.Errorf("%s: %v is not trimmed", what, got)
					case len(got) > api.MaxChain && len(two[0]) <= api.MaxChain:
						t.Errorf("%s: %d numbers", what, len(got))
					}
				})
			}
			for _, n := range sample.Edges() {
				want := 0
				if plainLength(a) <= api.MaxChain {
					want = plainAt(a, max(n, 0))
				}
				wantAt(t, "all alike", a, n, want)
			}
		}
	}
}

// TestManyNumbers has lists of many numbers, that end with zeros or do not.
func TestManyNumbers(t *testing.T) {
	many := make([]int, 1<<21)
	many[0] = 3
	for what, c := range calls() {
		if got, e := c(many, many); what != "Fit" && (e != api.OK || len(got) == 0) || len(got) > 2 {
			t.Errorf("%s of zeros: %v, %d", what, got, e)
		}
	}
	wantAt(t, "zeros", many, math.MaxInt, 3)
	many[len(many)-1] = 1
	for what, c := range calls() {
		if got, e := c(many, many); what != "Trim" && len(got) > 0 || e != api.OK && e != api.ErrArg {
			t.Errorf("%s of many: %d numbers, %d", what, len(got), e)
		}
	}
	wantAt(t, "many", many, 0, 0)
}

// withRoom is a copy with spare room that holds something.
func withRoom(list []int) []int {
	return append(slices.Clone(list), 71, 72, 73, 74, 75, 76, 77, 78, 79, 80, 81, 82, 83, 84, 85, 86, 87, 88)[:len(list)]
}

func memory(lists ...[]int) string {
	all := ""
	for _, list := range lists {
		all += fmt.Sprint(len(list), list[:cap(list)])
	}
	return all
}

func writeOver(list []int) {
	list = list[:cap(list)]
	for k := range list {
		list[k] = 12345
	}
}

// TestHandedInStays: no call changes what it is given, spare room included, and no answer shares memory with it (R4).
func TestHandedInStays(t *testing.T) {
	for k, c := range chains() {
		a, b := withRoom(c), withRoom(seededList(k%20, k))
		before := memory(a, b)
		eachCall(t, a, b, func(what string, got []int, e api.Errno) {
			if memory(a, b) != before {
				t.Fatalf("%s: what was handed in is changed", what)
			}
			writeOver(got)
			if memory(a, b) != before {
				t.Fatalf("%s: what is answered shares memory with what was handed in", what)
			}
		})
		chain.At(a, k)
		list := [][]int{a, b, a, {74}}
		chain.Add(list[:3]...)
		if memory(a, b) != before || memory(list...) != memory(a, b, a, []int{74}) {
			t.Fatalf("%s: what was handed in is changed", named(k, c))
		}
	}
}

// TestAnswersAreNewMemory: no two answers share any (R4).
func TestAnswersAreNewMemory(t *testing.T) {
	for k, c := range chains() {
		a, b := withRoom(c), withRoom(c)
		lists := [][]int{a, b}
		for range 2 {
			eachCall(t, a, a, func(what string, got []int, e api.Errno) { lists = append(lists, got) })
		}
		if !sample.AloneLists(lists) {
			t.Errorf("%s: lists share memory", named(k, c))
		}
	}
}

// TestNothingIsKept: what was asked ahead does not matter, nor what becomes of lists behind a call (R5).
func TestNothingIsKept(t *testing.T) {
	all := chains()
	want := map[string]string{}
	for round := range 3 {
		for k, c := range all {
			given := slices.Clone(c)
			eachCall(t, given, all[(k+5)%len(all)], func(what string, got []int, e api.Errno) {
				what = named(k, c) + ": " + what
				told := fmt.Sprint(got, e)
				if round == 0 {
					want[what] = told
				}
				if want[what] != told {
					t.Errorf("%s: %s, and then %s", what, want[what], told)
				}
				writeOver(got)
			})
			writeOver(given)
		}
	}
}
