package vm_test

import (
	"slices"
	"testing"

	"larder/api"
	"larder/vm"
)

// anotherEnv: an environment that differs in limit, overrides, seed and draws alone.
func (d drawer) anotherEnv(env api.Env) api.Env {
	other := d.env()
	other.Limit = pick(d, 65536, 70000, api.MaxLimit)
	other.Fuel = env.Fuel
	return other
}

// TestUnseen: P25.6: of code without InOpen.
func TestUnseen(t *testing.T) {
	d := draws(254)
	alike, memory := 0, 0
	for range rounds {
		c, env := d.code(false), d.env()
		if slices.ContainsFunc(c.Insts, func(in api.Inst) bool { return in.Op == api.InOpen }) {
			t.Fatal("the test draws code with walks")
		}
		one := vm.Run(c, env)
		if one.Err == api.ErrMemory {
			memory++
			continue
		}
		for range 3 {
			other := d.anotherEnv(env)
			if two := vm.Run(c, other); !same(one, two) {
				t.Fatalf("P25.6: the run of %s in %s leaves %s, in %s it leaves %s", told(c), toldEnv(env), toldOut(one), toldEnv(other), toldOut(two))
			}
			alike++
		}
	}
	if alike < rounds || memory < rounds/50 {
		t.Errorf("the test draws too little: %d runs alike, %d without memory", alike, memory)
	}
}

// TestUnseenByHand: P25.6: programs without a for, in environments of many kinds; and what they leave on plain maps.
func TestUnseenByHand(t *testing.T) {
	d := draws(255)
	for _, text := range []string{
		"map m; while i < 200 { m[i * i % 97] = i; if i % 3 { delete m[i]; } i = i + 1; } i = 0; while i < 100 { print i, m[i], has m[i]; i = i + 1; } print len m;",
		"map m; map n; while i < 60 { m[i] = n[i / 2] + 1; n[i] = m[i] * 2; if i == 40 { clear m; } i = i + 1; } print len m, len n, n[59], m[59];",
		"map m; clear m; m[1] = 1; clear m; m[2] = 2; print len m, m[1], m[2];",
	} {
		c := compiled(text)
		env := fuelled(5000)
		env.Limit = 100000
		want := meant(parsed(text), env, newNumberMaps(c.Maps))
		for range 50 {
			other := d.anotherEnv(env)
			if got := vm.Run(c, other); !same(got, want) {
				t.Fatalf("P25.6: %q in %s leaves %s, want %s", text, toldEnv(other), toldOut(got), toldOut(want))
			}
		}
	}
}
