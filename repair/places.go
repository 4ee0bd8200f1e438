package repair

import "strake/api"

// cellSet has a bit for each cell; api.MaxCells are no more than it has.
type cellSet uint64

func only(cell int) cellSet { return 1 << cell }

func (s cellSet) has(cell int) bool { return s&only(cell) != 0 }

// traffic is what a block does with cells.
type traffic struct {
	asked cellSet // there is an OpGet without an OpSet ahead of it
	set   cellSet // there is an OpSet
}

func trafficOf(b api.Block) traffic {
	var t traffic
	for _, in := range b.Code {
		switch in.Op {
		case api.OpGet:
			t.asked |= only(in.N) &^ t.set
		case api.OpSet:
			t.set |= only(in.N)
		}
	}
	return t
}

func (f function) traffic() []traffic {
	var all []traffic
	for _, b := range f.Blocks {
		all = append(all, trafficOf(b))
	}
	return all
}

// needed: of each block the cells that are needed ahead of it. Backwards, as what a block needs hangs on what the blocks
// that it goes to need; ways back ask for more than one round.
func (f function) needed(through []traffic) []cellSet {
	needed := make([]cellSet, len(f.Blocks))
	for changed := true; changed; {
		changed = false
		for b := range f.backwards() {
			var behind cellSet
			for _, to := range f.Blocks[b].Term.To {
				behind |= needed[to]
			}
			if now := through[b].asked | behind&^through[b].set; now != needed[b] {
				needed[b] = now
				changed = true
			}
		}
	}
	return needed
}

// phiCells: of each block the cells that it needs a phi of. Nothing lies in the frontier of block 0, where cells are 0.
func (f function) phiCells() []cellSet {
	through := f.traffic()
	needed := f.needed(through)
	cells := make([]cellSet, len(f.Blocks))
	for changed := true; changed; {
		changed = false
		for b := range f.downwards() {
			for _, to := range f.frontiers[b] {
				now := cells[to] | (through[b].set|cells[b])&needed[to]
				changed = changed || now != cells[to]
				cells[to] = now
			}
		}
	}
	return cells
}

func (f function) places() [][]int {
	all := make([][]int, f.Cells)
	for b, cells := range f.phiCells() {
		for cell := range all {
			if cells.has(cell) {
				all[cell] = append(all[cell], b)
			}
		}
	}
	return all
}
