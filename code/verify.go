package code

import "larder/api"

// sized: may a code of that length have so many variables and maps?
func sized(c api.Code) bool {
	return c.Vars >= 0 && c.Vars <= len(c.Insts) && c.Maps >= 0 && c.Maps <= api.MaxMaps
}

// eachFits: does each instruction use what there is, whether it can be reached or not?
func eachFits(c api.Code) bool {
	for at := range c.Insts {
		if !instFits(c, at) {
			return false
		}
	}
	return true
}

func instFits(c api.Code, at int) bool {
	in := c.Insts[at]
	if !isForm(in) {
		return false
	}
	switch forms[in.Op].uses {
	case aVar:
		return in.A >= 0 && in.A < c.Vars
	case aMap:
		return in.A >= 0 && in.A < c.Maps
	case aPlace:
		return in.A > at && in.A <= len(c.Insts) || in.A >= 0 && in.A <= at && c.Insts[in.A].Op == api.InTick
	case aCount:
		return in.A >= 0
	}
	return true
}

// heights: how many numbers lie on the stack, and how many walks there are.
type heights struct{ numbers, walks int }

// way: where an instruction goes on, and the heights there.
type way struct {
	place int
	heights
}

// look: the heights at each place that has been reached, and those of these places that are still to be looked at.
type look struct {
	reached []bool
	at      []heights
	todo    []int
}

// newLook: of a code of that length. The end counts as reached already: with nothing, as it has to be.
func newLook(length int) *look {
	l := &look{reached: make([]bool, length+1), at: make([]heights, length+1)}
	l.reached[length] = true
	return l
}

// reach: a way's place is reached; false, if it has been with other heights.
func (l *look) reach(w way) bool {
	if l.reached[w.place] {
		return w.heights == l.at[w.place]
	}
	l.reached[w.place], l.at[w.place] = true, w.heights
	l.todo = append(l.todo, w.place)
	return true
}

// take: one of the places that are still to be looked at.
func (l *look) take() way {
	last := len(l.todo) - 1
	at := l.todo[last]
	l.todo = l.todo[:last]
	return way{at, l.at[at]}
}

// waysHold: on all ways from place 0 on, is there what is taken, and has each place one height? Each instruction fits.
func waysHold(insts []api.Inst) bool {
	l := newLook(len(insts))
	l.reach(way{}) // with nothing, so that it may be the end
	holds := true
looking:
	for len(l.todo) > 0 {
		from := l.take()
		in := insts[from.place]
		if !takesWhatIs(in, from.heights) {
			holds = false
			break
		}
		for _, on := range waysFrom(in, from) {
			if !l.reach(on) {
				holds = false
				break looking
			}
		}
	}
	return holds
}

func takesWhatIs(in api.Inst, h heights) bool {
	takes, _ := takesAndLays(in)
	needsWalk := in.Op == api.InNext || in.Op == api.InClose
	return takes <= h.numbers && (h.walks > 0 || !needsWalk)
}

// waysFrom: the ways on from an instruction that is come to so.
func waysFrom(in api.Inst, from way) []way {
	takes, lays := takesAndLays(in)
	far, next := from, from
	far.place, next.place = in.A, from.place+1
	far.numbers -= takes
	next.numbers += lays - takes
	switch in.Op {
	case api.InJump:
		return []way{far}
	case api.InZero:
		return []way{next, far}
	case api.InNext:
		far.walks--
		return []way{next, far}
	case api.InOpen:
		next.walks++
	case api.InClose:
		next.walks--
	}
	return []way{next}
}

// takesAndLays: how many numbers an instruction takes off the stack, and how many it lays on it where it goes on at the next place.
func takesAndLays(in api.Inst) (takes, lays int) {
	switch in.Op {
	case api.InPush:
		fallthrough
	case api.InLoad:
		fallthrough
	case api.InLen:
		return 0, 1
	case api.InGet:
		fallthrough
	case api.InHas:
		fallthrough
	case api.InNeg:
		fallthrough
	case api.InNot:
		return 1, 1
	case api.InAdd:
		fallthrough
	case api.InSub:
		fallthrough
	case api.InMul:
		fallthrough
	case api.InDiv:
		fallthrough
	case api.InRem:
		fallthrough
	case api.InEq:
		fallthrough
	case api.InNe:
		fallthrough
	case api.InLt:
		fallthrough
	case api.InLe:
		fallthrough
	case api.InGt:
		fallthrough
	case api.InGe:
		return 2, 1
	case api.InStore:
		fallthrough
	case api.InDel:
		fallthrough
	case api.InZero:
		return 1, 0
	case api.InPut:
		return 2, 0
	case api.InPrint:
		return in.A, 0
	case api.InNext:
		return 0, 2
	}
	return 0, 0
}
