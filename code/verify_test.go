package code_test

import (
	"fmt"
	"math"
	"slices"
	"testing"

	"larder/api"
)

// good: code that is taken, in which each of these Ops stands once at least, so that it can be spoilt.
const good = "3 2; tick; push 5; store 0; tick; push 1; load 0; neg; put 1; tick; push 1; get 1; has 0; not; len 1; add; print 1; tick; open 1; tick; next 29; store 2; store 1; tick; load 1; zero 28; tick; close; jump 29; jump 18; tick; push 3; del 0; clear 1; tick"

// TestBoundsOfCode: P24.3, the first part.
func TestBoundsOfCode(t *testing.T) {
	for length, insts := range []string{"", "; tick", "; tick; tick", "; push 1; store 0; tick"} {
		for vars := range length + 1 {
			if vars > 0 || length < 3 {
				takes(t, fmt.Sprint(vars, " 0", insts))
			}
		}
		for _, vars := range []int{-1, length + 1, length + 2, math.MaxInt, math.MinInt} {
			refuses(t, fmt.Sprint(vars, " 0", insts))
		}
	}
	for _, insts := range []string{"", "; tick"} {
		for maps := range 17 {
			takes(t, fmt.Sprint("0 ", maps, insts))
		}
		for _, maps := range []int{-1, 17, 18, math.MaxInt, math.MinInt} {
			refuses(t, fmt.Sprint("0 ", maps, insts))
		}
	}
}

// around: the instruction at the ends of code in which it can be reached, or not, as the only thing that may be wrong; its places are counted from its own.
func around(in api.Inst) []api.Code {
	jump := func(to int) api.Inst { return api.Inst{Op: api.InJump, A: to} }
	tick := api.Inst{Op: api.InTick}
	return []api.Code{
		{Vars: 2, Maps: 2, Insts: []api.Inst{jump(2), in, tick}}, // it can't be reached
		{Vars: 2, Maps: 2, Insts: []api.Inst{tick, jump(0), in}}, // nor can the end
	}
}

// TestUnknownOps: P24.3: an Op that is none of the table, reached or not.
func TestUnknownOps(t *testing.T) {
	for _, op := range []int{0, -1, 30, 31, 77, 256 + 29, 1 << 32, math.MaxInt, math.MinInt} {
		found(t, api.Code{Insts: []api.Inst{{Op: op}}}, api.ErrCode)
		for _, c := range around(api.Inst{Op: op}) {
			found(t, c, api.ErrCode)
		}
	}
	for op := api.InPush; op <= api.InTick; op++ {
		if op != api.InJump && op != api.InZero && op != api.InNext {
			for _, c := range around(api.Inst{Op: op}) {
				found(t, c, api.OK) // what can't be reached takes nothing
			}
		}
	}
}

// TestUnusedNumbers: P24.3: each instruction, with each of its numbers: one that it doesn't use is 0.
func TestUnusedNumbers(t *testing.T) {
	for _, r := range rows {
		base := api.Inst{Op: r.op}
		if r.uses == "place" {
			base.A = 3
		}
		for _, n := range []int64{1, -1, 2, 5, math.MaxInt64, math.MinInt64, 1 << 32} {
			want := api.ErrCode
			if r.uses == "number" {
				want = api.OK
			}
			in := base
			in.N = n
			for _, c := range around(in) {
				found(t, c, want)
			}
			if r.uses == "number" || r.uses == "nothing" {
				in = base
				in.A = int(n)
				for _, c := range around(in) {
					found(t, c, api.ErrCode)
				}
			}
		}
		for _, c := range around(base) {
			found(t, c, api.OK)
		}
	}
}

// TestBoundsOfUse: P24.3: variables, maps, places and how many, at their bounds from both sides.
func TestBoundsOfUse(t *testing.T) {
	far := []int{math.MaxInt, math.MinInt, 1 << 32, -1 << 32}
	for _, r := range rows {
		var right, wrong []int
		switch r.uses {
		case "variable", "map": // there are two of each
			right, wrong = []int{0, 1}, append([]int{-1, 2, 3}, far...)
		case "many":
			right, wrong = []int{0, 1, 2, 100, math.MaxInt}, []int{-1, -2, math.MinInt}
		case "place": // the length is 3; at 0 there is a tick in the second code alone
			right, wrong = []int{3}, append([]int{-1, 4, 5}, far...)
		}
		for _, a := range right {
			for _, c := range around(api.Inst{Op: r.op, A: a}) {
				found(t, c, api.OK)
			}
		}
		for _, a := range wrong {
			for _, c := range around(api.Inst{Op: r.op, A: a}) {
				found(t, c, api.ErrCode)
			}
		}
	}
	for vars := range 4 {
		for maps := range 17 {
			for _, at := range []int{0, 1, 2, 3, 15, 16, 17} {
				c := api.Code{Vars: vars, Maps: maps, Insts: []api.Inst{{Op: api.InJump, A: 4}, {Op: api.InTick}, {Op: api.InTick}, {Op: api.InLoad, A: at}}}
				found(t, c, wanted(at < vars))
				c.Insts[3].Op = api.InClear
				found(t, c, wanted(at < maps))
			}
		}
	}
}

func wanted(right bool) api.Errno {
	if right {
		return api.OK
	}
	return api.ErrCode
}

// TestBackward: P24.3: a jump to its own place or to one ahead of it leads to a tick; one forward leads anywhere.
func TestBackward(t *testing.T) {
	for _, jump := range []int{api.InJump, api.InZero, api.InNext} {
		for target := api.InPush; target <= api.InTick; target++ {
			at := api.Inst{Op: target}
			if r, _ := rowOf(target); r.uses == "place" {
				at.A = 5 // to the end
			}
			for place := range 5 {
				for own := range 5 {
					insts := slices.Repeat([]api.Inst{{Op: api.InNeg}}, 5)
					insts[place] = at
					insts[own] = api.Inst{Op: jump, A: place}
					// Behind a jump ahead of all, nothing is reached.
					for i := range insts {
						if r, _ := rowOf(insts[i].Op); r.uses == "place" {
							insts[i].A++
						}
					}
					c := api.Code{Vars: 1, Maps: 1, Insts: append([]api.Inst{{Op: api.InJump, A: 6}}, insts...)}
					found(t, c, wanted(place > own || place < own && target == api.InTick))
				}
			}
		}
	}
	refuses(t, "0 0; jump 0")
	refuses(t, "0 0; tick; jump 1")
	takes(t, "0 0; tick; jump 0")
	refuses(t, "0 0; push 1; tick; zero 1") // at 1 there are two heights
	takes(t, "0 0; tick; push 1; zero 0")
	refuses(t, "0 0; push 1; zero 1")
	refuses(t, "0 0; print 0; push 1; zero 0")
	takes(t, "0 1; open 0; tick; next 5; print 2; jump 1")
	refuses(t, "0 1; tick; open 0; tick; next 0; print 2; jump 1")
	takes(t, "0 1; tick; open 0; tick; next 0; print 2; jump 2")
	refuses(t, "0 1; tick; open 0; tick; next 3; print 2; jump 2")
}

// TestTakesWhatIs: P24.3: each instruction with just the numbers that it takes, and with one less; with a walk, and without one.
func TestTakesWhatIs(t *testing.T) {
	for _, r := range rows {
		for _, many := range []int{0, 1, 2, 5} {
			for numbers := range 8 {
				for walks := range 3 {
					c, want := alone(r, many, numbers, walks)
					found(t, c, want)
				}
			}
		}
	}
}

// alone: code that comes to one instruction with so many numbers and walks, and behind it lets go of what there is; and whether it is taken.
func alone(r row, many, numbers, walks int) (api.Code, api.Errno) {
	c := api.Code{Maps: 1}
	add := func(n, op, a int) {
		for range n {
			c.Insts = append(c.Insts, api.Inst{Op: op, A: a})
		}
	}
	add(numbers, api.InPush, 0)
	add(walks, api.InOpen, 0)
	at := len(c.Insts)
	add(1, r.op, 0)
	lets := func(numbers, walks int) {
		add(1, api.InPrint, numbers)
		add(walks, api.InClose, 0)
	}
	takes := r.takes
	if r.uses == "many" {
		c.Insts[at].A, takes = many, many
	}
	right := numbers >= takes && (walks > 0 || r.name != "next" && r.name != "close")
	left := max(numbers-takes, 0)
	switch r.name {
	case "open":
		lets(left, walks+1)
	case "close":
		lets(left, max(walks-1, 0))
	case "next":
		lets(left+2, walks)
		add(1, api.InJump, 0)
		jump := len(c.Insts) - 1
		c.Insts[at].A = len(c.Insts)
		lets(left, max(walks-1, 0))
		c.Insts[jump].A = len(c.Insts)
	case "jump", "zero":
		c.Insts[at].A = at + 1
		lets(left, walks)
	default:
		lets(left+r.lays, walks)
	}
	if r.uses == "variable" {
		c.Vars = 1
	}
	return c, wanted(right)
}

// TestWaysMeet: P24.3: where two ways meet, they have as many numbers and as many walks; also where one of them is the first of all, or a loop's.
func TestWaysMeet(t *testing.T) {
	takes(t, "0 0; push 1; zero 4; push 1; jump 5; push 2; print 1")
	refuses(t, "0 0; push 1; zero 4; tick; jump 5; push 2; print 1")
	refuses(t, "0 0; push 1; zero 4; push 2; jump 5; tick; print 1")
	refuses(t, "0 0; push 1; zero 4; push 2; tick; print 1")
	takes(t, "0 1; push 1; zero 4; open 0; jump 5; open 0; close")
	refuses(t, "0 1; push 1; zero 4; open 0; jump 5; tick; close")
	refuses(t, "0 1; push 1; zero 4; tick; jump 5; open 0; close")
	takes(t, "0 0; push 1; zero 2; tick")             // both ways are one place
	refuses(t, "0 1; open 0; next 2; print 2; close") // so are next's, with unlike heights
	refuses(t, "0 1; open 0; next 2; tick")           // so are they
	refuses(t, "0 0; tick; push 1; jump 0")           // place 0 has been reached with nothing
	refuses(t, "0 1; tick; open 0; jump 0")           // likewise
	refuses(t, "0 1; tick; push 1; open 0; jump 0")   // likewise
	refuses(t, "0 0; push 1; tick; push 1; jump 1")   // a turn leaves one more
	refuses(t, "0 0; push 1; tick; print 1; jump 1")  // a turn leaves one less
	refuses(t, "0 1; tick; open 0; push 1; zero 0")   // a walk more
	takes(t, "0 1; tick; open 0; push 1; close; zero 0")
	takes(t, "0 0; tick; push 1; zero 5; tick; jump 0")
	takes(t, "0 0; push 1; push 1; zero 5; neg; jump 5; print 1")
	takes(t, "0 0; push 1; zero 3; jump 3")
	refuses(t, "0 1; push 1; zero 4; push 1; push 1; open 0; print 0") // a number and a walk aren't the same
	refuses(t, "0 1; push 1; zero 4; push 1; jump 5; open 0; tick")
}

// TestEnd: P24.3: the end is reached with nothing, on each way, or it is not reached.
func TestEnd(t *testing.T) {
	refuses(t, "0 0; push 1")
	refuses(t, "0 0; push 1; push 1; print 1")
	refuses(t, "0 1; open 0")
	refuses(t, "0 1; push 1; open 0")
	refuses(t, "0 1; open 0; open 0; close")
	refuses(t, "0 0; push 1; jump 2")
	refuses(t, "0 0; push 1; push 1; zero 3")
	refuses(t, "0 0; push 1; push 1; zero 4; print 1")
	refuses(t, "0 0; push 1; push 1; zero 5; print 1; jump 5")
	takes(t, "0 0; push 1; push 1; zero 4; tick; print 1")
	takes(t, "0 0; push 1; tick; jump 1")
	takes(t, "0 1; open 0; tick; jump 1")
	takes(t, "0 1; open 0; push 1; tick; jump 2; add")
	takes(t, "0 1; open 0; tick; next 5; tick; jump 3; tick")
	refuses(t, "0 1; open 0; tick; next 4; tick") // next's place is the end; the other way comes to it with two numbers
	takes(t, "0 1; open 0; tick; next 6; print 2; tick; jump 1")
	refuses(t, "0 1; open 0; open 0; tick; next 6; print 2; jump 2")
	takes(t, "0 1; open 0; open 0; tick; next 6; print 2; jump 2; close")
}

// TestUnreached: P24.3: what can't be reached is asked whether it fits, and nothing else.
func TestUnreached(t *testing.T) {
	for _, insts := range []string{"add", "push 1", "open 0", "close", "next 3", "zero 3", "print 7", "store 0", "tick", "jump 3"} {
		takes(t, "1 1; jump 3; "+insts+"; tick")
		takes(t, "1 1; tick; jump 0; "+insts)
	}
	for _, insts := range []string{"load 1", "store -1", "clear 1", "jump 4", "jump 1", "zero 0", "next -1", "print -1", "inst 9 1 0", "inst 29 0 1", "inst 30 0 0", "inst 0 0 0", "inst 1 1 0"} {
		refuses(t, "1 1; jump 3; "+insts+"; tick")
		refuses(t, "1 1; jump 3; print 0; "+insts)
	}
	takes(t, "0 0; jump 3; push 1; jump 3") // a way that isn't gone may come to a place with anything
	takes(t, "0 0; jump 3; push 1; zero 4; tick")
	refuses(t, "0 0; push 0; zero 4; push 1; jump 4") // both ways are looked at, whatever is pushed
}

// TestSpoilt: P24.3: right code with every one of its numbers and Ops changed.
func TestSpoilt(t *testing.T) {
	base := instructions(good)
	found(t, base, api.OK)
	for at := range base.Insts {
		for op := range 31 {
			for a := -1; a <= len(base.Insts)+1; a++ {
				c := base
				c.Insts = slices.Clone(base.Insts)
				c.Insts[at] = api.Inst{Op: op, A: a}
				found(t, c, plainVerify(c))
			}
		}
	}
}

// TestManyPlaces: P24.3: code with very many places, and with very many numbers on the stack.
func TestManyPlaces(t *testing.T) {
	const many = 1 << 20
	insts := slices.Repeat([]api.Inst{{Op: api.InPush}}, many)
	c := api.Code{Insts: append(insts, api.Inst{Op: api.InPrint, A: many})}
	verifies(t, "as many as it prints", c, api.OK)
	c.Insts[many].A++
	verifies(t, "one less than it prints", c, api.ErrCode)
	c.Insts[many].A = math.MaxInt
	verifies(t, "less than it prints", c, api.ErrCode)
	c.Insts[many].A = many - 1
	verifies(t, "one more than it prints", c, api.ErrCode)
	for i := range many {
		c.Insts[i] = api.Inst{Op: api.InPush}
		if i%2 == 1 {
			c.Insts[i] = api.Inst{Op: api.InZero, A: many}
		}
	}
	c.Insts[many] = api.Inst{Op: api.InTick}
	verifies(t, "many ways to one place", c, api.OK)
	c.Insts[many-3].A = many - 2
	verifies(t, "many ways to one place, and one to another", c, api.OK)
	c.Insts[many-3].A = many - 1
	verifies(t, "many ways to one place, and one past a push", c, api.ErrCode)
}
