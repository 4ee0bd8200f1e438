package loops

// blockSet tells of each block whether it is in the set.
type blockSet []bool

func (s blockSet) rising() []int {
	var blocks []int
	for b, in := range s {
		if in {
			blocks = append(blocks, b)
		}
	}
	return blocks
}

// pending are things that are still to be looked at.
type pending[T any] []T

func (p *pending[T]) add(things ...T) { *p = append(*p, things...) }

// take takes out what was added last.
func (p *pending[T]) take() (thing T, ok bool) {
	last := len(*p) - 1
	if last < 0 {
		return thing, false
	}
	thing = (*p)[last]
	*p = (*p)[:last]
	return thing, true
}
