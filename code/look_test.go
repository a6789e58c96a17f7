package code_test

import "larder/api"

// The chapter's words about code that can't go wrong once more, in another way: the heights are spread over all places again and again, until there is nothing new.

// plainVerify: the three parts of P24.3.
func plainVerify(c api.Code) api.Errno {
	length := len(c.Insts)
	if c.Vars < 0 || c.Vars > length || c.Maps < 0 || c.Maps > 16 {
		return api.ErrCode
	}
	for at, in := range c.Insts {
		if !plainFits(c, at, in) {
			return api.ErrCode
		}
	}
	return plainSpread(c.Insts)
}

// plainFits: is the instruction at that place right by itself?
func plainFits(c api.Code, at int, in api.Inst) bool {
	r, known := rowOf(in.Op)
	if !known || !r.unused(in) {
		return false
	}
	most := map[string]int{"variable": c.Vars - 1, "map": c.Maps - 1, "place": len(c.Insts), "many": 1<<63 - 1}
	if top, asked := most[r.uses]; asked && (in.A < 0 || in.A > top) {
		return false
	}
	return r.uses != "place" || in.A > at || c.Insts[in.A].Op == 29
}

// state: where a way has come to, with how many numbers and walks.
type state struct{ place, numbers, walks int }

// plainOn: the states behind one, and whether all was there that its instruction takes.
func plainOn(insts []api.Inst, s state) ([]state, bool) {
	in := insts[s.place]
	r, _ := rowOf(in.Op)
	takes := r.takes
	if takes < 0 {
		takes = in.A
	}
	if s.numbers < takes || s.walks == 0 && (r.name == "next" || r.name == "close") {
		return nil, false
	}
	next := state{s.place + 1, s.numbers - takes + r.lays, s.walks}
	switch r.name {
	case "jump":
		return []state{{in.A, s.numbers, s.walks}}, true
	case "zero":
		return []state{next, {in.A, s.numbers - 1, s.walks}}, true
	case "next":
		return []state{next, {in.A, s.numbers, s.walks - 1}}, true
	case "open":
		next.walks++
	case "close":
		next.walks--
	}
	return []state{next}, true
}

func plainSpread(insts []api.Inst) api.Errno {
	at := map[int]state{0: {}}
	for more := true; more; {
		more = false
		for place := range insts {
			s, reached := at[place]
			if !reached {
				continue
			}
			list, right := plainOn(insts, s)
			if !right {
				return api.ErrCode
			}
			for _, on := range list {
				was, known := at[on.place]
				if known && was != on {
					return api.ErrCode
				}
				more = more || !known
				at[on.place] = on
			}
		}
	}
	if end, reached := at[len(insts)]; reached && (end.numbers != 0 || end.walks != 0) {
		return api.ErrCode
	}
	return api.OK
}

// goesWrong: is there a way from place 0 on, of so many instructions at most, on which something is taken that is not there, or the end is come to with something left? All ways are gone through, whatever the heights.
func goesWrong(insts []api.Inst, most int) bool {
	seen := map[state]bool{}
	front := []state{{}}
	for range most {
		var further []state
		for _, s := range front {
			if s.place == len(insts) {
				if s.numbers != 0 || s.walks != 0 {
					return true
				}
				continue
			}
			list, right := plainOn(insts, s)
			if !right {
				return true
			}
			for _, on := range list {
				if !seen[on] {
					seen[on] = true
					further = append(further, on)
				}
			}
		}
		front = further
	}
	return false
}
