package vm

import (
	"larder/api"
	"larder/store"
	"larder/typed"
)

// machine: what a run goes on with. Code that code.Verify takes uses no variable, map, number or walk that is not there, so nobody asks whether it is.
type machine struct {
	store *store.Store
	maps  []*typed.Map[int64, int64]
	vars  []int64
	nums  stack[int64]
	walks stack[int] // handles
	seed  uint64     // of a map that is cleared
	draws []uint64   // those that no walk has taken
	at    int        // the place of the instruction that comes next
	lines []string
	steps int
	fuel  int
}

// stack: things that lie on one another; the last is the uppermost.
type stack[T any] []T

func (s *stack[T]) push(x T) { *s = append(*s, x) }

func (s *stack[T]) pop() T {
	low := len(*s) - 1
	x := (*s)[low]
	*s = (*s)[:low]
	return x
}

func (s stack[T]) uppermost() T { return s[len(s)-1] }

// newMachine: one ahead of the first instruction.
func newMachine(c api.Code, env api.Env) (*machine, api.Errno) {
	s, e := store.New(env.Limit, env.Over...)
	if e != api.OK {
		return nil, e
	}
	m := &machine{store: s, vars: make([]int64, c.Vars), seed: env.Seed, draws: env.Draws, fuel: min(max(env.Fuel, 0), api.MaxFuel)}
	for range c.Maps {
		numbers, e := typed.Make(s, typed.Int{}, typed.Int{}, 16, env.Seed, 0)
		if e != api.OK {
			return nil, e
		}
		m.maps = append(m.maps, numbers)
	}
	return m, api.OK
}

// run: does the instructions, until one ends the run or the end is come to. (An instruction that goes on elsewhere sets the place anew.)
func (m *machine) run(insts []api.Inst) (end api.Errno) {
	works := [...]func(*machine, api.Inst) api.Errno{
		api.InPush:  (*machine).push,
		api.InLoad:  (*machine).load,
		api.InStore: (*machine).keep,
		api.InGet:   (*machine).get,
		api.InHas:   (*machine).has,
		api.InLen:   (*machine).length,
		api.InNeg:   (*machine).negative,
		api.InNot:   (*machine).not,
		api.InAdd:   (*machine).add,
		api.InSub:   (*machine).subtract,
		api.InMul:   (*machine).multiply,
		api.InDiv:   (*machine).divide,
		api.InRem:   (*machine).rest,
		api.InEq:    (*machine).equal,
		api.InNe:    (*machine).unequal,
		api.InLt:    (*machine).less,
		api.InLe:    (*machine).atMost,
		api.InGt:    (*machine).greater,
		api.InGe:    (*machine).atLeast,
		api.InPut:   (*machine).put,
		api.InDel:   (*machine).drop,
		api.InClear: (*machine).empty,
		api.InPrint: (*machine).print,
		api.InJump:  (*machine).jump,
		api.InZero:  (*machine).zero,
		api.InOpen:  (*machine).open,
		api.InNext:  (*machine).next,
		api.InClose: (*machine).shut,
		api.InTick:  (*machine).tick,
	}
running:
	for m.at < len(insts) {
		in := insts[m.at]
		m.at++
		switch end = works[in.Op](m, in); end {
		case api.OK:
		default:
			break running
		}
	}
	return end
}

func (m *machine) jump(in api.Inst) api.Errno {
	m.at = in.A
	return api.OK
}

func (m *machine) zero(in api.Inst) api.Errno {
	if m.nums.pop() == 0 {
		m.at = in.A
	}
	return api.OK
}

func (m *machine) tick(api.Inst) api.Errno {
	if m.steps == m.fuel {
		return api.ErrFuel
	}
	m.steps++
	return api.OK
}
