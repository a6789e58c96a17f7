package vm_test

import (
	"fmt"
	"math"
	"strings"
	"testing"

	"larder/api"
	"larder/vm"
)

// many: so many overrides, each of a key of its own.
func many(n int) []api.Over {
	var list []api.Over
	for i := range n {
		list = append(list, api.Over{Key: fmt.Sprint("key ", i), Hash: uint64(i)})
	}
	return list
}

// refusals: overrides that no store takes, with its error.
var refusals = []struct {
	over []api.Over
	e    api.Errno
}{
	{many(65), api.ErrMany},
	{append(many(64), api.Over{}), api.ErrMany},
	{[]api.Over{{}}, api.ErrLong},
	{[]api.Over{{Key: strings.Repeat("k", 129)}}, api.ErrLong},
	{[]api.Over{{Key: "a"}, {Key: "b"}, {Key: "a", Hash: 1}}, api.ErrTwice},
}

// TestCodeComesFirst: P25.1: code that Verify does not take, whatever the environment is.
func TestCodeComesFirst(t *testing.T) {
	bad := []api.Code{
		instructions("0 0; add"), instructions("0 0; push 1"), instructions("1 0"), instructions("0 17"), instructions("0 -1"), instructions("-1 0"),
		instructions("0 0; jump 0"), instructions("0 0; tick; print 0; close"), instructions("0 1; open 0"), instructions("0 0; inst 30 0 0"), instructions("0 0; inst 0 0 0"),
		instructions("0 0; inst 29 1 0"), instructions("0 0; jump 2; load 0"), instructions("0 1; push 1; del 1"), instructions("0 0; print -1"), instructions("0 0; jump 5"),
		{Insts: []api.Inst{{Op: math.MinInt}}}, {Vars: math.MaxInt, Maps: math.MaxInt}, {Insts: []api.Inst{{Op: api.InPrint, A: math.MaxInt}}},
	}
	for _, c := range bad {
		runs(t, "P25.1", c, usual(), out(0, api.ErrCode))
		for _, limit := range []int{math.MinInt, -1, 0, 63, 64, 2097153, math.MaxInt} {
			env := api.Env{Limit: limit, Fuel: -1}
			runs(t, "P25.1", c, env, out(0, api.ErrCode))
			for _, r := range refusals {
				env.Over = r.over
				runs(t, "P25.1", c, env, out(0, api.ErrCode))
			}
		}
	}
}

// TestStoreComesSecond: P25.1: each error of store.New, ahead of maps that there is no memory for; the limit first.
func TestStoreComesSecond(t *testing.T) {
	for _, maps := range []int{0, 1, 16} {
		c := instructions(fmt.Sprint("0 ", maps, "; tick; push 1; push 0; print 2; push 0; push 0; div; print 1"))
		for _, limit := range []int{-1, math.MinInt, 2097153, math.MaxInt} {
			runs(t, "P25.1", c, limited(limit), out(0, api.ErrLimit))
			for _, r := range refusals {
				env := limited(limit)
				env.Over = r.over
				runs(t, "P25.1", c, env, out(0, api.ErrLimit))
			}
		}
		for _, limit := range []int{0, 63, 65536, 2097152} {
			for _, r := range refusals {
				env := limited(limit)
				env.Over = r.over
				runs(t, "P25.1", c, env, out(0, r.e))
			}
		}
		env := limited(2097152)
		env.Over = append(many(63), api.Over{Key: strings.Repeat("k", 128)})
		runs(t, "P25.1", c, env, out(1, api.ErrZero, "1 0"))
	}
}

// TestMemoryComesThird: P25.1: each map has a header of 64 bytes: memory that is enough for none, for some, for all but one, and for all.
func TestMemoryComesThird(t *testing.T) {
	for maps := range 17 {
		c := instructions(fmt.Sprint("0 ", maps, "; print 0; tick; print 0; push 1; push 0; rem; print 1"))
		for limit := range 64*maps + 200 {
			want := out(1, api.ErrZero, "", "")
			if limit < 64*maps {
				want = out(0, api.ErrMemory)
			}
			runs(t, "P25.1", c, limited(limit), want)
		}
	}
}

// TestRefusedLeavesNothing: P25.1: no line and no step, though the first instructions would add some.
func TestRefusedLeavesNothing(t *testing.T) {
	c := instructions("0 2; print 0; tick; tick; print 0")
	for _, env := range []api.Env{limited(-1), limited(100), {Limit: 65536, Over: many(65), Fuel: 9}} {
		if o := vm.Run(c, env); len(o.Lines) > 0 || o.Steps != 0 || o.Err == api.OK {
			t.Errorf("P25.1: ahead of the first instruction the run leaves %s", toldOut(o))
		}
	}
}

// TestBegin: P25.1: all variables are 0, all maps are empty, and each is one of its own.
func TestBegin(t *testing.T) {
	vars, lens := "", ""
	for i := range 40 {
		vars += fmt.Sprint("load ", i, "; ")
	}
	for i := range 16 {
		lens += fmt.Sprint("len ", i, "; ")
	}
	leaves(t, "P25.1", "40 0; "+vars+"print 40", usual(), out(0, api.OK, strings.TrimSpace(strings.Repeat("0 ", 40))))
	leaves(t, "P25.1", "0 16; "+lens+"print 16", usual(), out(0, api.OK, strings.TrimSpace(strings.Repeat("0 ", 16))))
	for i := range 16 {
		want := make([]int, 16)
		want[i] = 1
		lines := fmt.Sprintf("0 16; push 3; push 4; put %d; %s print 16; push 3; get %d; push 3; get %d; print 2", i, lens, i, (i+1)%16)
		leaves(t, "P25.1", lines, usual(), out(0, api.OK, strings.Trim(fmt.Sprint(want), "[]"), "4 0"))
	}
}

// walked: a walk over so many keys of a map that was made with the environment's seed and, where it is cleared ahead of them, cleared with it.
func walked(keys int, cleared bool) string {
	lines := "0 1; "
	at := 3 * keys
	if cleared {
		lines += "push 77; push 77; put 0; clear 0; "
		at += 4
	}
	for i := range keys {
		lines += fmt.Sprintf("push %d; push %d; put 0; ", i, i*i)
	}
	return lines + fmt.Sprintf("open 0; tick; next %d; print 2; jump %d", at+5, at+1)
}

// TestSeed: P25.1, P25.2: the maps are made, and cleared, with the environment's seed, which is to be seen in the order of a walk.
func TestSeed(t *testing.T) {
	for _, cleared := range []bool{false, true} {
		c := instructions(walked(20, cleared))
		orders := map[string]bool{}
		for _, seed := range []uint64{0, 1, 2, 77, 1 << 63, math.MaxUint64} {
			env := usual()
			env.Seed = seed
			o := asThePlain(t, "P25.1", c, env)
			if len(o.Lines) != 20 || o.Steps != 21 || o.Err != api.OK {
				t.Fatalf("P25.2: a walk over 20 keys leaves %s", toldOut(o))
			}
			orders[strings.Join(o.Lines, ", ")] = true
		}
		if len(orders) < 4 {
			t.Errorf("the test sees too little: %d orders of a walk, cleared %v", len(orders), cleared)
		}
	}
}

// TestHash: P25.1: the overrides are the store's: they are to be seen in the order of a walk.
func TestHash(t *testing.T) {
	c := instructions(walked(20, false))
	orders := map[string]bool{}
	for turn := range uint64(6) {
		env := usual()
		for i := range int64(20) {
			env.Over = append(env.Over, api.Over{Key: laid(i), Hash: uint64(i+1) * (turn*2 + 1) * 0x9e3779b97f4a7c15})
		}
		orders[strings.Join(asThePlain(t, "P25.1", c, env).Lines, ", ")] = true
	}
	if len(orders) < 4 {
		t.Errorf("the test sees too little: %d orders of a walk", len(orders))
	}
}
