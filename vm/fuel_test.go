package vm_test

import (
	"fmt"
	"math"
	"slices"
	"testing"

	"larder/api"
	"larder/vm"
)

// sweeps: the code runs with every fuel from below 0 up to some steps more than it takes; with how many it doesn't end by its fuel.
func sweeps(t *testing.T, c api.Code, env api.Env, most int) int {
	t.Helper()
	env.Fuel = most
	full := vm.Run(c, env)
	enough := full.Steps
	if full.Err == api.ErrFuel {
		enough = most + 1
	}
	whole := 0
	for fuel := -3; fuel <= min(enough+3, most); fuel++ {
		env.Fuel = fuel
		o := vm.Run(c, env)
		has := max(fuel, 0)
		switch {
		case has >= enough && !same(o, full):
			t.Fatalf("P25.5: with the fuel %d the run of %s leaves %s, with more %s", fuel, told(c), toldOut(o), toldOut(full))
		case has >= enough:
			whole++
		case o.Err != api.ErrFuel || o.Steps != has:
			t.Fatalf("P25.5: with the fuel %d the run of %s leaves %s, it takes %d steps", fuel, told(c), toldOut(o), enough)
		case len(o.Lines) > len(full.Lines) || !slices.Equal(o.Lines, full.Lines[:len(o.Lines)]):
			t.Fatalf("P25.5: with the fuel %d the run of %s adds the lines %q, with more %q", fuel, told(c), o.Lines, full.Lines)
		}
	}
	return whole
}

// TestEveryFuel: P25.5.
func TestEveryFuel(t *testing.T) {
	d := draws(253)
	whole, steps := 0, 0
	for range rounds / 10 {
		c, env := d.code(true), d.env()
		whole += sweeps(t, c, env, 200)
		env.Fuel = 200
		steps += vm.Run(c, env).Steps
	}
	if whole < rounds/4 || steps < rounds {
		t.Errorf("the test draws too little: %d runs that are not ended by their fuel, %d steps", whole, steps)
	}
	for _, text := range []string{"", "print 1;", "while i < 10 { i = i + 1; print i; }", "print 1; print 1 / 0; print 2;", "map m; m[1] = 1; m[2] = 2; for k, v in m { print k; } print len m;"} {
		if n := sweeps(t, compiled(text), usual(), 100); n < 4 {
			t.Errorf("P25.5: %q is run whole with %d fuels", text, n)
		}
	}
}

// TestFuelByHand: P25.5, P25.3: the tick for which there is no fuel, and what is behind it, is not done; what is ahead of it is.
func TestFuelByHand(t *testing.T) {
	lines := "1 0; print 0; tick; push 1; print 1; tick; push 2; print 1; tick; push 3; print 1"
	for fuel, want := range map[int]api.Out{
		math.MinInt: out(0, api.ErrFuel, ""),
		-1:          out(0, api.ErrFuel, ""),
		0:           out(0, api.ErrFuel, ""),
		1:           out(1, api.ErrFuel, "", "1"),
		2:           out(2, api.ErrFuel, "", "1", "2"),
		3:           out(3, api.OK, "", "1", "2", "3"),
		4:           out(3, api.OK, "", "1", "2", "3"),
		1048576:     out(3, api.OK, "", "1", "2", "3"),
		math.MaxInt: out(3, api.OK, "", "1", "2", "3"),
	} {
		leaves(t, "P25.5", lines, fuelled(fuel), want)
	}
	for _, fuel := range []int{-5, 0, 1} {
		leaves(t, "P25.5", "0 0; push 1; print 1", fuelled(fuel), out(0, api.OK, "1"))
	}
	leaves(t, "P25.5", "0 0; tick; push 1; push 0; div; print 1", fuelled(1), out(1, api.ErrZero))
	leaves(t, "P25.5", "0 0; tick; push 1; push 0; div; print 1", fuelled(0), out(0, api.ErrFuel))
	leaves(t, "P25.5", "0 1; tick; push 1; push 0; put 0", api.Env{Limit: 64, Fuel: 1}, out(1, api.ErrMemory))
}

// TestMostFuel: P25.5: there is no more fuel than MaxFuel.
func TestMostFuel(t *testing.T) {
	forever := instructions("0 0; tick; jump 0")
	for fuel, want := range map[int]int{1048575: 1048575, 1048576: 1048576, 1048577: 1048576, 1 << 40: 1048576, math.MaxInt: 1048576} {
		if o := vm.Run(forever, fuelled(fuel)); !same(o, out(want, api.ErrFuel)) {
			t.Errorf("P25.5: with the fuel %d a run for ever leaves %s, want %d steps", fuel, toldOut(o), want)
		}
	}
	// Just as many steps as there may be, and one more.
	count := func(turns int) api.Code {
		return instructions(fmt.Sprint("1 0; push ", turns, "; store 0; tick; load 0; zero 10; load 0; push 1; sub; store 0; jump 2; push 9; print 1"))
	}
	if o := vm.Run(count(1048575), fuelled(math.MaxInt)); !same(o, out(1048576, api.OK, "9")) {
		t.Errorf("P25.5: a run of MaxFuel steps leaves %s", toldOut(o))
	}
	if o := vm.Run(count(1048576), fuelled(math.MaxInt)); !same(o, out(1048576, api.ErrFuel)) {
		t.Errorf("P25.5: a run of one step more than MaxFuel leaves %s", toldOut(o))
	}
}
