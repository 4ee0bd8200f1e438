package closed_test

import (
	"fmt"
	"testing"

	"strake/api"
	"strake/edit"
	"strake/sample"
)

// wantMade asks for a function, but for the numbers of new values.
func wantMade(t *testing.T, what string, f, want api.Func) {
	t.Helper()
	if got := wantClosed(t, what, f, sample.Inputs()); !edit.Alike(got, want) {
		t.Errorf("%s: Close answers %v, want %v", what, got, want)
	}
}

// TestCloseOneWay: behind the only way out a phi stands for a value, and all uses from there on are its.
func TestCloseOneWay(t *testing.T) {
	wantMade(t, "two values, and uses far behind",
		numbered(t, "b0:", "jump b1", "b1:", "v3 = phi int b0 v1 b1 v4", "v4 = sub v3 v2", "v5 = lt v2 v4", "branch v5 b1 b2",
			"b2:", "v6 = add v3 v4", "branch v5 b3 b4", "b3:", "out v3", "jump b4", "b4:", "v7 = phi int b2 v6 b3 v4", "v8 = add v7 v3", "return v8"),
		numbered(t, "b0:", "jump b1", "b1:", "v3 = phi int b0 v1 b1 v4", "v4 = sub v3 v2", "v5 = lt v2 v4", "branch v5 b1 b2",
			"b2:", "v9 = phi int b1 v3", "v10 = phi int b1 v4", "v11 = phi bool b1 v5", "v6 = add v9 v10", "branch v11 b3 b4",
			"b3:", "out v9", "jump b4", "b4:", "v7 = phi int b2 v6 b3 v10", "v8 = add v7 v9", "return v8"))
	wantMade(t, "a flag that is told as it is",
		numbered(t, "b0:", "jump b1", "b1:", "v3 = phi bool b0 v0 b1 v4", "v4 = not v3", "branch v3 b1 b2", "b2:", "return v4"),
		numbered(t, "b0:", "jump b1", "b1:", "v3 = phi bool b0 v0 b1 v4", "v4 = not v3", "branch v3 b1 b2", "b2:", "v5 = phi bool b1 v4", "return v5"))
	wantMade(t, "a phi that was there stays, the other uses get one of their own",
		numbered(t, "b0:", "jump b1", "b1:", "v3 = phi int b0 v1 b1 v4", "v4 = sub v3 v2", "v5 = lt v2 v4", "branch v5 b1 b2", "b2:", "v6 = phi int b1 v4", "v7 = add v6 v3", "return v7"),
		numbered(t, "b0:", "jump b1", "b1:", "v3 = phi int b0 v1 b1 v4", "v4 = sub v3 v2", "v5 = lt v2 v4", "branch v5 b1 b2", "b2:", "v6 = phi int b1 v4", "v8 = phi int b1 v3", "v7 = add v6 v8", "return v7"))
	shut := numbered(t, "b0:", "jump b1", "b1:", "v3 = phi int b0 v1 b1 v4", "v4 = sub v3 v2", "v5 = lt v2 v4", "branch v5 b1 b2", "b2:", "v6 = phi int b1 v4", "return v6")
	wantMade(t, "a phi that was there is enough", shut, shut)
	wantMade(t, "value 0", first(t), sample.Read(t, "func arrays 0 cells 0", "b0:", "v3 = const 4", "jump b1",
		"b1:", "v1 = phi int b0 v3 b1 v0", "v4 = const 1", "v0 = sub v1 v4", "v2 = lt v4 v0", "branch v2 b1 b2", "b2:", "v5 = phi int b1 v0", "return v5"))
	wantMade(t, "a block that goes out twice",
		numbered(t, "b0:", "jump b1", "b1:", "v4 = add v1 v2", "branch v0 b2 b1", "b2:", "branch v0 b3 b3", "b3:", "return v4"),
		numbered(t, "b0:", "jump b1", "b1:", "v4 = add v1 v2", "branch v0 b2 b1", "b2:", "v5 = phi int b1 v4", "branch v0 b3 b3", "b3:", "return v5"))
}

// TestCloseSomeWays: each way out that the value is needed behind has a phi, and so has each block where some meet.
func TestCloseSomeWays(t *testing.T) {
	wantMade(t, "to one block",
		numbered(t, "b0:", "jump b1", "b1:", "v4 = add v1 v2", "branch v0 b2 b3", "b2:", "branch v0 b1 b3", "b3:", "return v4"),
		numbered(t, "b0:", "jump b1", "b1:", "v4 = add v1 v2", "branch v0 b2 b3", "b2:", "branch v0 b1 b3", "b3:", "v5 = phi int b1 v4 b2 v4", "return v5"))
	wantMade(t, "to two blocks that meet",
		numbered(t, "b0:", "jump b1", "b1:", "v4 = add v1 v2", "branch v0 b2 b3", "b2:", "branch v0 b1 b4", "b3:", "jump b5", "b4:", "out v4", "jump b5", "b5:", "return v4"),
		numbered(t, "b0:", "jump b1", "b1:", "v4 = add v1 v2", "branch v0 b2 b3", "b2:", "branch v0 b1 b4", "b3:", "v5 = phi int b1 v4", "jump b5", "b4:", "v6 = phi int b2 v4", "out v6", "jump b5",
			"b5:", "v7 = phi int b3 v5 b4 v6", "return v7"))
	wantMade(t, "to two blocks, one of which has no need of it",
		numbered(t, "b0:", "jump b1", "b1:", "v4 = add v1 v2", "branch v0 b2 b3", "b2:", "branch v0 b1 b4", "b3:", "return v1", "b4:", "return v4"),
		numbered(t, "b0:", "jump b1", "b1:", "v4 = add v1 v2", "branch v0 b2 b3", "b2:", "branch v0 b1 b4", "b3:", "return v1", "b4:", "v5 = phi int b2 v4", "return v5"))
	wantMade(t, "to a block that another way out goes to",
		numbered(t, "b0:", "jump b1", "b1:", "v4 = add v1 v2", "branch v0 b2 b3", "b2:", "branch v0 b1 b4", "b3:", "out v2", "jump b4", "b4:", "return v4"),
		numbered(t, "b0:", "jump b1", "b1:", "v4 = add v1 v2", "branch v0 b2 b3", "b2:", "branch v0 b1 b4", "b3:", "v5 = phi int b1 v4", "out v2", "jump b4", "b4:", "v6 = phi int b2 v4 b3 v5", "return v6"))
	wantMade(t, "to a block whose phi gets it from a way in and from behind",
		numbered(t, "b0:", "jump b1", "b1:", "v4 = add v1 v2", "branch v0 b2 b3", "b2:", "branch v0 b1 b4", "b3:", "jump b4", "b4:", "v5 = phi int b2 v4 b3 v4", "return v5"),
		numbered(t, "b0:", "jump b1", "b1:", "v4 = add v1 v2", "branch v0 b2 b3", "b2:", "branch v0 b1 b4", "b3:", "v6 = phi int b1 v4", "jump b4", "b4:", "v5 = phi int b2 v4 b3 v6", "return v5"))
}

// TestCloseNests: a value that leaves loops one after the other has a phi behind each; one that leaves them at once has one.
func TestCloseNests(t *testing.T) {
	wantMade(t, "one after the other",
		numbered(t, "b0:", "jump b1", "b1:", "jump b2", "b2:", "v4 = add v1 v2", "branch v0 b2 b3", "b3:", "branch v0 b1 b4", "b4:", "return v4"),
		numbered(t, "b0:", "jump b1", "b1:", "jump b2", "b2:", "v4 = add v1 v2", "branch v0 b2 b3", "b3:", "v5 = phi int b2 v4", "branch v0 b1 b4", "b4:", "v6 = phi int b3 v5", "return v6"))
	wantMade(t, "at once",
		numbered(t, "b0:", "jump b1", "b1:", "jump b2", "b2:", "v4 = add v1 v2", "branch v0 b3 b4", "b3:", "branch v0 b2 b1", "b4:", "return v4"),
		numbered(t, "b0:", "jump b1", "b1:", "jump b2", "b2:", "v4 = add v1 v2", "branch v0 b3 b4", "b3:", "branch v0 b2 b1", "b4:", "v5 = phi int b2 v4", "return v5"))
	wantMade(t, "one after the other, and at once",
		numbered(t, "b0:", "jump b1", "b1:", "jump b2", "b2:", "v4 = add v1 v2", "branch v0 b3 b4", "b3:", "branch v0 b2 b5", "b4:", "out v4", "branch v0 b1 b5", "b5:", "return v4"),
		numbered(t, "b0:", "jump b1", "b1:", "jump b2", "b2:", "v4 = add v1 v2", "branch v0 b3 b4", "b3:", "branch v0 b2 b5", "b4:", "v5 = phi int b2 v4", "out v5", "branch v0 b1 b5",
			"b5:", "v6 = phi int b3 v4 b4 v5", "return v6"))
	wantMade(t, "a phi that was there leaves the loop around",
		numbered(t, "b0:", "jump b1", "b1:", "jump b2", "b2:", "v4 = add v1 v2", "branch v0 b2 b3", "b3:", "v5 = phi int b2 v4", "branch v0 b1 b4", "b4:", "return v5"),
		numbered(t, "b0:", "jump b1", "b1:", "jump b2", "b2:", "v4 = add v1 v2", "branch v0 b2 b3", "b3:", "v5 = phi int b2 v4", "branch v0 b1 b4", "b4:", "v6 = phi int b3 v5", "return v6"))
	wantMade(t, "back to the head of the loop around",
		numbered(t, "b0:", "jump b1", "b1:", "v4 = phi int b0 v1 b3 v5", "jump b2", "b2:", "v5 = add v4 v2", "branch v0 b2 b3", "b3:", "jump b1"),
		numbered(t, "b0:", "jump b1", "b1:", "v4 = phi int b0 v1 b3 v6", "jump b2", "b2:", "v5 = add v4 v2", "branch v0 b2 b3", "b3:", "v6 = phi int b2 v5", "jump b1"))
	wantMade(t, "made in the loop around, used in the one within and behind both",
		numbered(t, "b0:", "jump b1", "b1:", "v4 = add v1 v2", "jump b2", "b2:", "out v4", "branch v0 b2 b3", "b3:", "out v4", "branch v0 b1 b4", "b4:", "return v4"),
		numbered(t, "b0:", "jump b1", "b1:", "v4 = add v1 v2", "jump b2", "b2:", "out v4", "branch v0 b2 b3", "b3:", "out v4", "branch v0 b1 b4", "b4:", "v5 = phi int b3 v4", "return v5"))
}

// TestCloseIntoLoops: where a loop goes on at the next one's head, the phi there keeps the value, and leaves that one, too.
func TestCloseIntoLoops(t *testing.T) {
	wantMade(t, "at the next one's head",
		numbered(t, "b0:", "jump b1", "b1:", "v4 = add v1 v2", "branch v0 b1 b2", "b2:", "out v4", "branch v0 b2 b3", "b3:", "return v4"),
		numbered(t, "b0:", "jump b1", "b1:", "v4 = add v1 v2", "branch v0 b1 b2", "b2:", "v5 = phi int b1 v4 b2 v5", "out v5", "branch v0 b2 b3", "b3:", "v6 = phi int b2 v5", "return v6"))
	wantMade(t, "ahead of the next one",
		numbered(t, "b0:", "jump b1", "b1:", "v4 = add v1 v2", "branch v0 b1 b2", "b2:", "jump b3", "b3:", "out v4", "branch v0 b3 b4", "b4:", "return v4"),
		numbered(t, "b0:", "jump b1", "b1:", "v4 = add v1 v2", "branch v0 b1 b2", "b2:", "v5 = phi int b1 v4", "jump b3", "b3:", "out v5", "branch v0 b3 b4", "b4:", "return v5"))
	wantMade(t, "two ways out into the next one",
		numbered(t, "b0:", "jump b1", "b1:", "v4 = add v1 v2", "branch v0 b2 b3", "b2:", "branch v0 b1 b4", "b3:", "jump b5", "b4:", "jump b5", "b5:", "branch v0 b6 b7", "b6:", "out v4", "jump b5", "b7:", "return v4"),
		numbered(t, "b0:", "jump b1", "b1:", "v4 = add v1 v2", "branch v0 b2 b3", "b2:", "branch v0 b1 b4", "b3:", "v5 = phi int b1 v4", "jump b5", "b4:", "v6 = phi int b2 v4", "jump b5",
			"b5:", "v7 = phi int b3 v5 b4 v6 b6 v7", "branch v0 b6 b7", "b6:", "out v7", "jump b5", "b7:", "v8 = phi int b5 v7", "return v8"))
	wantMade(t, "two ways out, into a loop of two ways in",
		numbered(t, "b0:", "jump b1", "b1:", "v4 = add v1 v2", "branch v0 b2 b3", "b2:", "branch v0 b1 b4", "b3:", "out v4", "jump b4", "b4:", "branch v0 b3 b5", "b5:", "return v4"),
		numbered(t, "b0:", "jump b1", "b1:", "v4 = add v1 v2", "branch v0 b2 b3", "b2:", "branch v0 b1 b4", "b3:", "v5 = phi int b1 v4 b4 v6", "out v5", "jump b4",
			"b4:", "v6 = phi int b2 v4 b3 v5", "branch v0 b3 b5", "b5:", "return v6"))
}

// TestCloseSmall has all graphs of up to four blocks, with values that are used far from where they are made.
func TestCloseSmall(t *testing.T) {
	n, more := 0, 0
	sample.EachSmall(func(what string, f api.Func) {
		if n++; n%7 == 0 {
			f = sample.Recalling(f)
			more += min(1, phisOf(wantClosed(t, what, f, sample.Walks()[1:3]))-phisOf(f))
		}
	})
	if n < 5000 || more < 300 {
		t.Errorf("just %d graphs, %d of them with more phis", n, more)
	}
}

// TestCloseSeeded has greater graphs, and functions with operations of all kinds.
func TestCloseSeeded(t *testing.T) {
	more := map[string]int{}
	ask := func(kind string, seed int, f api.Func, ins []api.Input) {
		g := wantClosed(t, fmt.Sprint(kind, " ", seed), f, ins)
		if phisOf(g) > phisOf(f) {
			more[kind]++
		}
	}
	for seed := range 200 {
		ask("walking", seed, sample.Walking(sample.Reached(t, 4+seed%40, seed)), sample.Walks())
		ask("recalling", seed, sample.Recalling(sample.Reached(t, 4+seed%40, seed+1000)), sample.Walks())
		ask("busy", seed, sample.Busy(2+seed%40, seed), sample.Inputs())
		ask("celled", seed, sample.Celled(2+seed%40, seed), sample.Inputs())
	}
	for rungs := 1; rungs < 12; rungs++ {
		ask("rungs", rungs, sample.Recalling(sample.Ladder(rungs)), sample.Walks())
		ask("nested", rungs, sample.Recalling(sample.Nested(rungs)), sample.Walks())
	}
	ask("deep", 0, sample.Recalling(sample.Deep(t)), sample.Walks())
	for kind, least := range map[string]int{"walking": 40, "recalling": 40, "busy": 40, "celled": 40, "nested": 11, "deep": 1} {
		if more[kind] < least {
			t.Errorf("%s: just %d functions have more phis", kind, more[kind])
		}
	}
}
