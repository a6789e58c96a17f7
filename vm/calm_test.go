package vm_test

import (
	"fmt"
	"math"
	"slices"
	"strings"
	"testing"

	"larder/api"
	"larder/vm"
)

// roomy: the list in memory of its own, with something in its spare room.
func roomy[T any](list []T, spare T) []T {
	return append(append([]T{}, list...), spare, spare)[:len(list)]
}

// whole: a copy of a list and of what lies in its spare room.
func whole[T any](list []T) []T { return slices.Clone(list[:cap(list)]) }

// scribble: the whole of a list is written over.
func scribble[T any](list []T, with T) {
	list = list[:cap(list)]
	for i := range list {
		list[i] = with
	}
}

var (
	spareInst = api.Inst{Op: api.InPrint, A: 98, N: 97}
	spareOver = api.Over{Key: "spare", Hash: 5}
)

// roomyCase: code and an environment whose lists have spare room.
func (d drawer) roomyCase() (api.Code, api.Env) {
	c, env := d.code(true), d.env()
	c.Insts = roomy(c.Insts, spareInst)
	env.Over = roomy(env.Over, spareOver)
	env.Draws = roomy(env.Draws, 99)
	return c, env
}

// TestNothingIsChanged: P25.7, W3: neither the code, the overrides and the draws nor the room behind them.
func TestNothingIsChanged(t *testing.T) {
	d := draws(258)
	for range rounds / 4 {
		c, env := d.roomyCase()
		insts, over, drawn := whole(c.Insts), whole(env.Over), whole(env.Draws)
		one := vm.Run(c, env)
		if !slices.Equal(whole(c.Insts), insts) || !slices.Equal(whole(env.Over), over) || !slices.Equal(whole(env.Draws), drawn) {
			t.Fatalf("P25.7: the run of %s in %s changes what it is given", told(c), toldEnv(env))
		}
		if two := vm.Run(c, env); !same(one, two) {
			t.Fatalf("W2: a run of %s leaves %s, the next one %s", told(c), toldOut(one), toldOut(two))
		}
	}
}

// TestAnswersAreNew: P25.7, W3: what is done to an answer, or to what was handed in, is seen in no other answer.
func TestAnswersAreNew(t *testing.T) {
	d := draws(259)
	lines := 0
	for range rounds / 4 {
		c, env := d.roomyCase()
		one, two := vm.Run(c, env), vm.Run(c, env)
		kept := slices.Clone(two.Lines)
		scribble(one.Lines, "other")
		scribble(c.Insts, spareInst)
		scribble(env.Over, spareOver)
		scribble(env.Draws, 99)
		if !slices.Equal(two.Lines, kept) {
			t.Fatalf("W3: an answer becomes %q, it was %q", two.Lines, kept)
		}
		lines += len(kept)
	}
	if lines < rounds/2 {
		t.Errorf("the test draws too little: %d lines", lines)
	}
}

// TestNothingIsKept: P25.7: what a run leaves hangs on no other run.
func TestNothingIsKept(t *testing.T) {
	d := draws(2510)
	type row struct {
		c    api.Code
		env  api.Env
		want api.Out
	}
	var list []row
	for range 60 {
		c, env := d.code(true), d.badEnv()
		list = append(list, row{c, env, vm.Run(c, env)})
	}
	list = append(list, row{instructions("0 0; add"), usual(), out(0, api.ErrCode)})
	for _, r := range list {
		for _, other := range list {
			vm.Run(other.c, other.env)
			if got := vm.Run(r.c, r.env); !same(got, r.want) {
				t.Fatalf("P25.7: behind another run %s leaves %s, want %s", told(r.c), toldOut(got), toldOut(r.want))
			}
		}
	}
}

// TestAnyCode: P25.7, W1: code and environments with any numbers: each run ends, and none panics.
func TestAnyCode(t *testing.T) {
	d := draws(2511)
	numbers := []int{0, 0, 1, 1, 2, 3, 5, 16, 17, -1, 29, 30, 64, math.MaxInt, math.MinInt, math.MaxInt32, api.MaxFuel, api.MaxLimit, 65536}
	taken := 0
	for range rounds * 20 {
		c := api.Code{Vars: pick(d, 0, 0, 1, pick(d, numbers...)), Maps: pick(d, 0, 1, 2, pick(d, numbers...))}
		for range d.Intn(6) {
			in := api.Inst{Op: 1 + d.Intn(29)}
			switch d.Intn(4) {
			case 0:
				in = api.Inst{Op: pick(d, numbers...), A: pick(d, numbers...), N: int64(pick(d, numbers...))}
			case 1:
				in.A = d.Intn(6)
			case 2:
				in.N = int64(pick(d, numbers...))
			}
			c.Insts = append(c.Insts, in)
		}
		env := api.Env{Limit: pick(d, numbers...), Over: d.overs(), Seed: d.Uint64(), Fuel: pick(d, 100, -1, math.MinInt, 0)}
		if o := asThePlain(t, "P25.7", c, env); o.Err != api.ErrCode {
			taken++
		}
	}
	if taken < rounds/2 {
		t.Errorf("the test draws too little: %d codes are taken", taken)
	}
	runs(t, "P25.7", api.Code{}, api.Env{}, api.Out{})
}

// TestGreatCode: P25.7, P25.2: very long code, very many numbers, variables, walks, and very many lines.
func TestGreatCode(t *testing.T) {
	const many = 1 << 18
	insts := make([]api.Inst, 0, 2*many)
	for i := range int64(many) {
		insts = append(insts, api.Inst{Op: api.InPush, N: i - 7})
	}
	sums := slices.Concat(insts, slices.Repeat([]api.Inst{{Op: api.InAdd}}, many-1), []api.Inst{{Op: api.InPrint, A: 1}})
	if o := vm.Run(api.Code{Insts: sums}, usual()); !same(o, out(0, api.OK, fmt.Sprint(many*(many-1)/2-7*many))) {
		t.Errorf("P25.2: the sum of very many numbers: %s", toldOut(o))
	}
	var want strings.Builder
	for i := range many {
		fmt.Fprint(&want, i-7, " ")
	}
	if o := vm.Run(api.Code{Insts: append(insts, api.Inst{Op: api.InPrint, A: many})}, usual()); !same(o, out(0, api.OK, strings.TrimSpace(want.String()))) {
		t.Errorf("P25.2: a line of very many numbers: %s", toldOut(o))
	}
	vars := insts
	for i := range many {
		vars = append(vars, api.Inst{Op: api.InStore, A: i})
	}
	vars = append(vars, api.Inst{Op: api.InLoad, A: 3}, api.Inst{Op: api.InPrint, A: 1})
	if o := vm.Run(api.Code{Vars: many, Insts: vars}, usual()); !same(o, out(0, api.OK, fmt.Sprint(many-1-3-7))) {
		t.Errorf("P25.2: very many variables: %s", toldOut(o))
	}
	walks := slices.Concat(slices.Repeat([]api.Inst{{Op: api.InOpen}}, many), slices.Repeat([]api.Inst{{Op: api.InClose}}, many))
	if o := vm.Run(api.Code{Maps: 1, Insts: walks}, usual()); !same(o, out(0, api.OK)) {
		t.Errorf("P25.2: very many walks: %s", toldOut(o))
	}
	o := vm.Run(instructions("0 0; tick; print 0; jump 0"), fuelled(math.MaxInt))
	if len(o.Lines) != api.MaxFuel || o.Steps != api.MaxFuel || o.Err != api.ErrFuel || strings.Join(o.Lines, "") != "" {
		t.Errorf("P25.5: as many lines as there may be steps: %d lines, %d steps, error %d", len(o.Lines), o.Steps, o.Err)
	}
}
