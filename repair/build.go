package repair

import (
	"slices"

	"strake/api"
	"strake/fresh"
	"strake/values"
)

// builder makes phis of cells; its function is a copy, which it changes in place.
type builder struct {
	function
	cellOf map[int]int // of each new phi its cell
	got    map[int]int // of each value that an OpGet made the value that the cell held there
	held   [][]int     // of each block that is done the values that the cells hold at its end
	zero   int         // the value that cells hold at first
}

// built may answer a function that is beyond the limits.
func built(f function) api.Func {
	cells := f.phiCells()
	f.Func = fresh.Func(f.Func)
	b := builder{f, map[int]int{}, map[int]int{}, make([][]int, len(f.Blocks)), values.FirstNew(f.Func)}
	b.addPhis(cells)
	for at := range b.downwards() {
		b.buildBlock(at)
	}
	b.fillPhis()
	values.EachUse(b.Blocks, b.turn)
	b.makeZero()
	b.Cells = 0
	return b.Func
}

// addPhis gives the new phis the numbers from zero's on, and zero the one behind them: it is not always needed.
func (b *builder) addPhis(cells []cellSet) {
	for at := range b.Blocks {
		for cell := range b.Cells {
			if cells[at].has(cell) {
				b.cellOf[b.zero] = cell
				b.Blocks[at].Phis = append(b.Blocks[at].Phis, api.Phi{Id: b.zero, Type: api.Int, From: slices.Clone(b.preds[at])})
				b.zero++
			}
		}
	}
}

// buildBlock takes what a block does with cells out of its code. Those that dominate the block must be done.
func (b *builder) buildBlock(at int) {
	held := b.heldAhead(at)
	block := &b.Blocks[at]
	for _, p := range block.Phis {
		if cell, ok := b.cellOf[p.Id]; ok {
			held[cell] = p.Id
		}
	}
	var code []api.Instr
	for _, in := range block.Code {
		switch in.Op {
		case api.OpGet:
			b.got[in.Id] = held[in.N]
		case api.OpSet:
			held[in.N] = in.Args[0]
			b.turn(&held[in.N])
		default:
			code = append(code, in)
		}
	}
	block.Code = code
	b.held[at] = held
}

// heldAhead: what the cells hold ahead of a block, where it has no phi of them, and they are needed.
func (b *builder) heldAhead(at int) []int {
	if at == 0 {
		return slices.Repeat([]int{b.zero}, b.Cells)
	}
	return slices.Clone(b.held[b.idoms[at]])
}

// fillPhis comes behind all blocks, as a phi may get what a block holds that is done behind its own.
func (b *builder) fillPhis() {
	for at := range b.Blocks {
		for i := range b.Blocks[at].Phis {
			p := &b.Blocks[at].Phis[i]
			if cell, ok := b.cellOf[p.Id]; ok {
				for _, from := range p.From {
					p.Vals = append(p.Vals, b.held[from][cell])
				}
			}
		}
	}
}

// turn makes a use of what an OpGet made one of what the cell held.
func (b *builder) turn(id *int) {
	if now, ok := b.got[*id]; ok {
		*id = now
	}
}

// makeZero: a function that needs no zero has no room for it, perhaps.
func (b *builder) makeZero() {
	used := false
	values.EachUse(b.Blocks, func(id *int) { used = used || *id == b.zero })
	if used {
		zero := api.Instr{Op: api.OpConst, Id: b.zero, N: 0}
		b.Blocks[0].Code = append([]api.Instr{zero}, b.Blocks[0].Code...)
	}
}
