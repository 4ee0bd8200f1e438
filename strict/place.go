package strict

import "strake/api"

// front is the place ahead of a block's instructions, where its phis, and in block 0 the parameters, are made.
const front = -1

// place is an instruction's place in a block, or its front, or its end, behind the last instruction.
type place struct{ block, at int }

func endOf(f api.Func, block int) place { return place{block, len(f.Blocks[block].Code)} }

// placesOf: of each value where it is made. The function must be formed: an instruction that makes nothing has an Id that
// is no value's.
func placesOf(f api.Func) map[int]place {
	made := map[int]place{}
	for id := range f.Params {
		made[id] = place{0, front}
	}
	for b, block := range f.Blocks {
		for _, p := range block.Phis {
			made[p.Id] = place{b, front}
		}
		for i, in := range block.Code {
			if in.Id >= 0 {
				made[in.Id] = place{b, i}
			}
		}
	}
	return made
}
