package vm_test

import (
	"fmt"
	"slices"
	"strings"
	"testing"

	"larder/api"
	"larder/vm"
)

// filled: the lines that put the keys from 1 on into a map, each with ten times itself.
func filled(m, keys int) string {
	lines := ""
	for i := 1; i <= keys; i++ {
		lines += fmt.Sprintf("; push %d; push %d; put %d", i, 10*i, m)
	}
	return lines
}

// pairs: the lines that a walk over such a map prints, in some order.
func pairs(keys int) []string {
	var list []string
	for i := 1; i <= keys; i++ {
		list = append(list, fmt.Sprint(i, " ", 10*i))
	}
	return list
}

// TestWalk: P25.2: each pair once, its key and then its value; then the walk is done, and the run goes on at the place.
func TestWalk(t *testing.T) {
	for _, keys := range []int{0, 1, 2, 7, 8, 9, 14, 15, 60, 90} {
		at := 3 * keys
		lines := fmt.Sprintf("0 1%s; open 0; tick; next %d; print 2; jump %d; push 7; print 1", filled(0, keys), at+5, at+1)
		o := asThePlain(t, "P25.2", instructions(lines), usual())
		if len(o.Lines) != keys+1 || o.Lines[keys] != "7" || o.Steps != keys+1 || o.Err != api.OK {
			t.Errorf("P25.2: a walk over %d keys leaves %s", keys, toldOut(o))
			continue
		}
		got, want := slices.Sorted(slices.Values(o.Lines[:keys])), slices.Sorted(slices.Values(pairs(keys)))
		if !slices.Equal(got, want) {
			t.Errorf("P25.2: a walk over %d keys yields %q, want %q in some order", keys, got, want)
		}
	}
}

// TestWalkOfAChangingMap: P25.2: what is deleted isn't met, what is put meanwhile neither, a value is the one of that step.
func TestWalkOfAChangingMap(t *testing.T) {
	// Without further draws a walk over a small map begins at its first key.
	for _, row := range []struct {
		body string
		want []string
	}{
		{"print k, v;", []string{"1 10", "2 20", "3 30"}},
		{"print k, v; delete m[2];", []string{"1 10", "3 30"}},
		{"print k, v; delete m[k];", []string{"1 10", "2 20", "3 30"}},
		{"print k, v; m[k + 10] = 5;", []string{"1 10", "2 20", "3 30"}},
		{"print k, v; m[3] = v + 1;", []string{"1 10", "2 20", "3 21"}},
		{"print k, v; delete m[3]; m[3] = 4;", []string{"1 10", "2 20"}},
		{"print k, v; clear m; m[3] = 4;", []string{"1 10"}},
		{"print k, v; i = 0; while i < 100 { m[100 + i] = 1; i = i + 1; }", []string{"1 10", "2 20", "3 30"}},
		{"i = 0; while i < 30 { m[100 + i] = 1; i = i + 1; } print k, v; delete m[3];", []string{"1 10", "2 20"}},
		{"k = 7; v = 8; print k, v;", []string{"7 8", "7 8", "7 8"}},
		{"print k, v; if k == 2 { break; }", []string{"1 10", "2 20"}},
		{"if k == 2 { continue; } print k, v;", []string{"1 10", "3 30"}},
		{"print k, v; for k, v in m { break; } print k, v;", []string{"1 10", "1 10", "2 20", "1 10", "3 30", "1 10"}},
	} {
		c := compiled("map m; m[1] = 10; m[2] = 20; m[3] = 30; for k, v in m { " + row.body + " }")
		env := drawing()
		env.Fuel = 10000
		o := asThePlain(t, "P25.2", c, env)
		if !slices.Equal(o.Lines, row.want) || o.Err != api.OK {
			t.Errorf("P25.2: the body %q leaves %s, want %q", row.body, toldOut(o), row.want)
		}
	}
}

// TestUppermost: P25.2: the walk that was opened last is asked; when it is done or closed, the one below it.
func TestUppermost(t *testing.T) {
	two := "0 2; push 1; push 10; put 0; push 2; push 20; put 1; push 3; push 30; put 1; open 0; open 1"
	leaves(t, "P25.2", two+"; next 14; print 2; close; next 17; print 2; close", drawing(), out(0, api.OK, "2 20", "1 10"))
	leaves(t, "P25.2", two+"; close; next 15; print 2; close", drawing(), out(0, api.OK, "1 10"))
	leaves(t, "P25.2", two+"; close; close; print 0", drawing(), out(0, api.OK, ""))
	// The upper walk is gone through to its end, then the lower one goes on.
	leaves(t, "P25.2", two+"; tick; next 15; print 2; jump 11; next 18; print 2; close; print 0", drawing(), out(3, api.OK, "2 20", "3 30", "1 10", ""))
	leaves(t, "P25.2", two+"; tick; next 15; print 2; jump 11; tick; next 19; print 2; jump 15; print 0", drawing(), out(5, api.OK, "2 20", "3 30", "1 10", ""))
	// One map, and three walks that stand at unlike places of it.
	one := "0 1" + filled(0, 3) + "; open 0; next 22; print 2; open 0; next 21; print 2; next 21; print 2; open 0; next 20; print 2; close; next 21; print 2; close; print 0"
	leaves(t, "P25.2", one, drawing(), out(0, api.ErrCode))
	one = "0 1" + filled(0, 3) + "; open 0; next 27; print 2; open 0; next 24; print 2; next 24; print 2; open 0; next 21; print 2; close; next 24; print 2; close; next 27; print 2; close; print 0"
	leaves(t, "P25.2", one, drawing(), out(0, api.OK, "1 10", "1 10", "2 20", "1 10", "3 30", "2 20", ""))
}

// TestManyWalks: P25.2: many walks at once, each on its own place.
func TestManyWalks(t *testing.T) {
	lines, want := "0 16", []string{}
	at := 0
	for m := range 16 {
		lines += filled(m, m+1)
		at += 3 * (m + 1)
	}
	for m := range 16 {
		lines += fmt.Sprint("; open ", m)
	}
	at += 16
	for m := 15; m >= 0; m-- {
		lines += fmt.Sprintf("; len %d; print 1; tick; next %d; print 2; jump %d", m, at+6, at+2)
		want = append(want, fmt.Sprint(m+1))
		at += 6
	}
	env := drawing()
	env.Fuel = 1000
	o := asThePlain(t, "P25.2", instructions(lines), env)
	if o.Err != api.OK || o.Steps != 16*17/2+16 || len(o.Lines) != 16*17/2+16 {
		t.Fatalf("P25.2: a walk over each of 16 maps leaves %s", toldOut(o))
	}
	for m := 15; m >= 0; m-- {
		part := o.Lines[:m+2]
		o.Lines = o.Lines[m+2:]
		if part[0] != want[15-m] || !slices.Equal(slices.Sorted(slices.Values(part[1:])), slices.Sorted(slices.Values(pairs(m+1)))) {
			t.Errorf("P25.2: the walk over map %d yields %q", m, part)
		}
	}
	// Very many over one map.
	long := "0 1" + filled(0, 2) + strings.Repeat("; open 0", 2000) + strings.Repeat("; close", 2000) + "; print 0"
	leaves(t, "P25.2", long, usual(), out(0, api.OK, ""))
}

// TestDraws: P25.2: each walk takes two draws, the first as its first; behind the last they are 0.
func TestDraws(t *testing.T) {
	loop := func(at int) string { return fmt.Sprintf("; open 0; tick; next %d; print 2; jump %d", at+5, at+1) }
	for _, keys := range []int{3, 40} {
		c := instructions("0 1" + filled(0, keys) + loop(3*keys) + loop(3*keys+5) + loop(3*keys+10))
		all := []uint64{3, 1, 6, 2, 1, 9, 9, 11}
		var orders []string
		for n := range len(all) + 1 {
			env := drawing(all[:n]...)
			env.Fuel = 1000
			o := asThePlain(t, "P25.2", c, env)
			if len(o.Lines) != 3*keys || o.Err != api.OK {
				t.Fatalf("P25.2: three walks leave %s", toldOut(o))
			}
			orders = append(orders, strings.Join(o.Lines, ", "))
		}
		if orders[6] != orders[7] || orders[6] != orders[8] {
			t.Errorf("P25.2: draws that no walk takes are to be seen: %q", orders[6:])
		}
		slices.Sort(orders)
		if n := len(slices.Compact(orders)); n < 4 {
			t.Errorf("the test sees too little: %d orders of three walks over %d keys", n, keys)
		}
	}
	// A walk that is closed unasked has taken its draws.
	lines := "0 1" + filled(0, 3) + "; open 0; close"
	asked := asThePlain(t, "P25.2", instructions(lines+loop(11)), drawing(1, 2, 0, 1))
	if want := asThePlain(t, "P25.2", instructions("0 1"+filled(0, 3)+loop(9)), drawing(0, 1)); !slices.Equal(asked.Lines, want.Lines) {
		t.Errorf("P25.2: the walk behind one that takes two draws yields %q, want %q", asked.Lines, want.Lines)
	}
}

// TestWalksLetGo: P25.2: a walk that is done, and one that is closed, keeps no memory from what is put behind it: under each limit as on the plain machine.
func TestWalksLetGo(t *testing.T) {
	grow := " while i < 60 { m[i] = i; i = i + 1; } print len m;"
	ends := map[api.Errno]int{}
	for _, text := range []string{
		"map m; m[1] = 2; for k, v in m { break; }" + grow,
		"map m; m[1] = 2; for k, v in m { }" + grow,
		"map m; m[1] = 2; m[3] = 4; for k, v in m { for a, b in m { break; } while i < 20 { m[i] = i; i = i + 1; } }" + grow,
		"map m; m[1] = 2; m[3] = 4; for k, v in m { while i < 20 { m[i] = i; i = i + 1; } print i; break; }" + grow,
		"map m; m[1] = 2; for k, v in m {" + grow + "}",
	} {
		c := compiled(text)
		for limit := 64; limit < 9000; limit += 16 {
			env := limited(limit)
			env.Fuel = 2000
			o := asThePlain(t, "P25.2", c, env)
			ends[o.Err]++
		}
	}
	if ends[api.OK] < 50 || ends[api.ErrMemory] < 50 {
		t.Errorf("the test sees too little: the runs end with %v", ends)
	}
}

// TestWalksAreReleased: P25.2: so many walks, one after the other, take no more memory than one.
func TestWalksAreReleased(t *testing.T) {
	c := compiled("map m; m[1] = 2; m[3] = 4; while i < 2000 { for k, v in m { delete m[1]; m[1] = i; j = 0; while j < 9 { m[j + 50] = j; j = j + 1; } break; } for k, v in m { } clear m; m[1] = 2; m[3] = 4; i = i + 1; } print i;")
	env := limited(4000)
	env.Fuel = api.MaxFuel
	if o := vm.Run(c, env); o.Err != api.OK || !slices.Equal(o.Lines, []string{"2000"}) {
		t.Errorf("P25.2: many walks leave %s", toldOut(o))
	}
}
