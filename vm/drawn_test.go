package vm_test

import (
	"fmt"
	"math/rand"
	"testing"

	"larder/api"
	"larder/code"
)

const rounds = 4000

// drawer: code and environments, by draws that a seed fixes.
type drawer struct{ *rand.Rand }

func draws(seed int64) drawer { return drawer{rand.New(rand.NewSource(seed))} }

func pick[T any](d drawer, list ...T) T { return list[d.Intn(len(list))] }

// builder: code that Verify takes, built with an eye on how many numbers and walks there are at each place.
type builder struct {
	drawer
	insts       []api.Inst
	vars, maps  int
	nums, walks int
	opens       bool // may it have InOpen?
}

func (b *builder) emit(op, a int) int {
	b.insts = append(b.insts, api.Inst{Op: op, A: a})
	return len(b.insts) - 1
}

func (b *builder) push() {
	x := int64(b.Intn(12))
	if b.Intn(6) == 0 {
		x = pick(b.drawer, edges...)
	}
	b.insts = append(b.insts, api.Inst{Op: api.InPush, N: x})
	b.nums++
}

func (b *builder) print(n int) {
	b.emit(api.InPrint, n)
	b.nums -= n
}

func (b *builder) open() {
	b.emit(api.InOpen, b.Intn(b.maps))
	b.walks++
}

func (b *builder) shut() {
	b.emit(api.InClose, 0)
	b.walks--
}

// settle: so many numbers and walks there are from here on.
func (b *builder) settle(nums, walks int) {
	for b.nums < nums {
		b.push()
	}
	if b.nums > nums {
		b.print(b.nums - nums)
	}
	for b.walks < walks {
		b.open()
	}
	for b.walks > walks {
		b.shut()
	}
}

// number: an instruction that takes and lays numbers alone.
func (b *builder) number() {
	switch n := b.Intn(7); {
	case n == 0 && b.nums > 0:
		b.emit(api.InStore, b.Intn(b.vars))
		b.nums--
	case n == 1:
		b.emit(api.InLoad, b.Intn(b.vars))
		b.nums++
	case n == 2 && b.nums > 0:
		b.emit(pick(b.drawer, api.InNeg, api.InNot), 0)
	case n < 5 && b.nums > 1:
		b.emit(api.InAdd+b.Intn(11), 0)
		b.nums--
	case n == 5 && b.nums > 0:
		b.print(b.Intn(b.nums + 1))
	default:
		b.push()
	}
}

// mapped: an instruction that asks or changes a map.
func (b *builder) mapped() {
	m := b.Intn(b.maps)
	switch n := b.Intn(12); {
	case n < 5 && b.nums > 1:
		b.emit(api.InPut, m)
		b.nums -= 2
	case n < 7 && b.nums > 0:
		b.emit(pick(b.drawer, api.InGet, api.InHas), m)
	case n == 7 && b.nums > 0:
		b.emit(api.InDel, m)
		b.nums--
	case n == 8:
		b.emit(api.InLen, m)
		b.nums++
	case n == 9:
		b.emit(api.InClear, m)
	case n == 10 && b.opens && b.walks < 5:
		b.open()
	case n == 11 && b.walks > 0:
		b.shut()
	default:
		b.push()
		b.push()
	}
}

// block: some instructions, with at most so many loops and branches in one another.
func (b *builder) block(deep int) {
	for range b.Intn(8) {
		switch n := b.Intn(10); {
		case n == 0 && deep > 0:
			b.branch(deep - 1)
		case n == 1 && deep > 0:
			b.loop(deep - 1)
		case n == 2 && deep > 0 && b.opens:
			b.walk(deep - 1)
		case n == 3:
			b.emit(api.InTick, 0)
		case n < 7:
			b.number()
		default:
			b.mapped()
		}
	}
}

func (b *builder) branch(deep int) {
	b.push()
	zero := b.emit(api.InZero, 0)
	b.nums--
	nums, walks := b.nums, b.walks
	b.block(deep)
	b.settle(nums, walks)
	if b.Intn(2) == 0 {
		b.insts[zero].A = len(b.insts)
		return
	}
	jump := b.emit(api.InJump, 0)
	b.insts[zero].A = len(b.insts)
	b.block(deep)
	b.settle(nums, walks)
	b.insts[jump].A = len(b.insts)
}

// loop: a while, which may go on for ever.
func (b *builder) loop(deep int) {
	nums, walks := b.nums, b.walks
	at := b.emit(api.InTick, 0)
	b.emit(api.InLoad, b.Intn(b.vars))
	zero := b.emit(api.InZero, 0)
	b.block(deep)
	b.settle(nums, walks)
	b.emit(api.InJump, at)
	b.insts[zero].A = len(b.insts)
}

// walk: a loop over a walk, or the next of the uppermost walk, whatever that is.
func (b *builder) walk(deep int) {
	if b.walks == 0 || b.Intn(3) > 0 {
		b.open()
	}
	nums, walks := b.nums, b.walks
	at := b.emit(api.InTick, 0)
	next := b.emit(api.InNext, 0)
	b.nums += 2
	b.block(deep)
	if b.Intn(3) > 0 {
		b.settle(nums, walks)
		b.emit(api.InJump, at)
	} else {
		b.settle(nums, walks-1)
	}
	b.nums, b.walks = nums, walks-1
	b.insts[next].A = len(b.insts)
}

// code: code that Verify takes.
func (d drawer) code(opens bool) api.Code {
	b := &builder{drawer: d, vars: 1 + d.Intn(3), maps: 1 + d.Intn(3), opens: opens}
	for range 1 + d.Intn(4) {
		b.block(3)
	}
	if d.Intn(2) == 0 { // something to walk over
		b.settle(0, 0)
		for range d.Intn(40) {
			b.push()
			b.push()
			b.emit(api.InPut, d.Intn(b.maps))
			b.nums -= 2
		}
		b.block(3)
	}
	for range 3 {
		b.block(2)
	}
	b.settle(0, 0)
	c := api.Code{Vars: b.vars, Maps: b.maps, Insts: b.insts}
	if c.Vars > len(c.Insts) {
		c.Vars = len(c.Insts)
	}
	if e := code.Verify(c); e != api.OK {
		panic(fmt.Sprint("the test builds code that is not taken: ", told(c)))
	}
	return c
}

// overs: overrides of some keys that the code may have, many of them with one hash.
func (d drawer) overs() []api.Over {
	var list []api.Over
	for i := range int64(12) {
		if d.Intn(2) == 0 {
			list = append(list, api.Over{Key: laid(i), Hash: pick(d, 0, 0, d.Uint64(), 127, 1<<63)})
		}
	}
	return list
}

// env: one that a store takes.
func (d drawer) env() api.Env {
	env := api.Env{Limit: pick(d, 65536, 65536, 4000, 2000, 1000, 500, 300, 200, 100, 64, 0, api.MaxLimit), Seed: pick(d, 0, 1, d.Uint64()), Fuel: pick(d, 100, 30, 10, 3, 0, -1, 300)}
	if d.Intn(2) == 0 {
		env.Over = d.overs()
	}
	for range d.Intn(12) {
		env.Draws = append(env.Draws, pick(d, d.Uint64(), d.Uint64()%64))
	}
	return env
}

// badEnv: one that a store may refuse.
func (d drawer) badEnv() api.Env {
	env := d.env()
	switch d.Intn(3) {
	case 0:
		env.Limit = pick(d, -1, api.MaxLimit+1)
	case 1:
		env.Over = refusals[d.Intn(len(refusals))].over
	}
	return env
}

// TestDrawnCode: P25.1 to P25.4: in each environment the code leaves what the plain machine leaves, and ends in no other way than it may.
func TestDrawnCode(t *testing.T) {
	d := draws(251)
	ends := map[api.Errno]int{}
	lines := 0
	for range rounds {
		c := d.code(true)
		for range 3 {
			env := d.badEnv()
			if d.Intn(2) == 0 {
				env = d.env()
			}
			o := asThePlain(t, "P25.2", c, env)
			ends[o.Err]++
			lines += len(o.Lines)
		}
	}
	for e, n := range ends {
		switch e {
		case api.OK, api.ErrZero, api.ErrFuel, api.ErrMemory, api.ErrLimit, api.ErrMany, api.ErrLong, api.ErrTwice:
			if n < rounds/50 {
				t.Errorf("the test draws too little: %d runs end with %d", n, e)
			}
		default:
			t.Errorf("P25.4: %d runs of code that Verify takes end with %d", n, e)
		}
	}
	if len(ends) != 8 || lines < rounds*3 {
		t.Errorf("the test draws too little: the runs end with %v, %d lines in all", ends, lines)
	}
}

// TestSpoiltCode: P25.1, P25.4: code that is taken, with an instruction changed: it is run just where Verify takes it, and never panics.
func TestSpoiltCode(t *testing.T) {
	d := draws(252)
	taken := 0
	for range rounds {
		c := d.code(true)
		for range 3 {
			if len(c.Insts) == 0 {
				break
			}
			in := &c.Insts[d.Intn(len(c.Insts))]
			switch d.Intn(4) {
			case 0:
				in.A = pick(d, in.A+1, in.A-1, -1, d.Intn(len(c.Insts)+1))
			case 1:
				in.Op = d.Intn(31)
			case 2:
				*in = c.Insts[d.Intn(len(c.Insts))]
			case 3:
				c.Insts = append(append([]api.Inst{}, c.Insts[:len(c.Insts)/2]...), c.Insts[len(c.Insts)/2+1:]...)
			}
			o := asThePlain(t, "P25.1", c, d.env())
			if o.Err != api.ErrCode {
				taken++
			}
			if e := code.Verify(c); (o.Err == api.ErrCode) != (e != api.OK) {
				t.Fatalf("P25.1: Verify of %s = %d, its run leaves %s", told(c), e, toldOut(o))
			}
		}
	}
	if taken < rounds/10 || taken > 2*rounds {
		t.Errorf("the test draws too little: %d codes are taken", taken)
	}
}
