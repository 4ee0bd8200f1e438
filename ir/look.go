package ir

import "strake/api"

// anyType is what a place takes that takes values of each type.
const anyType = 0

// look is a function that is looked at, with the types of its values.
type look struct {
	api.Func
	types map[int]int
}

// lookAt gives no look beside an error, so that nobody reads types that are told by halves.
func lookAt(f api.Func) (look, api.Errno) {
	l := look{Func: f, types: map[int]int{}}
	if !l.formed() {
		return look{}, api.ErrForm
	}
	if e := l.checkUses(); e != api.OK {
		return look{}, e
	}
	return l, api.OK
}

// size counts the phis, instructions and ends.
func (l look) size() int {
	n := 0
	for _, b := range l.Blocks {
		n += len(b.Phis) + len(b.Code) + 1
	}
	return n
}

// eachUse shows see each use: the value, and the type that is taken there. The function must be formed.
func (l look) eachUse(see func(id, taken int)) {
	for _, b := range l.Blocks {
		for _, p := range b.Phis {
			for _, id := range p.Vals {
				see(id, p.Type)
			}
		}
		for _, in := range b.Code {
			_, takes, _ := Args(in.Op)
			for i, id := range in.Args {
				see(id, takes[i])
			}
		}
		switch b.Term.Op {
		case api.Branch:
			see(b.Term.Val, api.Bool)
		case api.Return:
			see(b.Term.Val, anyType)
		}
	}
}

// checkUses goes through all uses ahead of answering: a use of no value comes ahead of a wrong type, wherever it stands.
func (l look) checkUses() api.Errno {
	unknown, unfit := false, false
	l.eachUse(func(id, taken int) {
		typ, ok := l.types[id]
		if !ok {
			unknown = true
		} else if taken != anyType && typ != taken {
			unfit = true
		}
	})
	switch {
	case unknown:
		return api.ErrUse
	case unfit:
		return api.ErrType
	}
	return api.OK
}
