package vm_test

import (
	"fmt"
	"math"
	"strings"
	"testing"

	"larder/api"
	"larder/vm"
)

// TestGetHasLen: P25.2: a key that is there, one that is not, one that is there no more, and one whose value is 0.
func TestGetHasLen(t *testing.T) {
	look := "; push 1; get 0; push 1; has 0; push 2; get 0; push 2; has 0; len 0; print 5"
	for _, row := range []struct{ done, want string }{
		{"", "0 0 0 0 0"},
		{"; push 1; push 7; put 0", "7 1 0 0 1"},
		{"; push 2; push -7; put 0", "0 0 -7 1 1"},
		{"; push 1; push 0; put 0", "0 1 0 0 1"},
		{"; push 1; push 7; put 0; push 1; push 8; put 0", "8 1 0 0 1"},
		{"; push 1; push 7; put 0; push 2; push 8; put 0", "7 1 8 1 2"},
		{"; push 1; push 7; put 0; push 1; del 0", "0 0 0 0 0"},
		{"; push 1; push 7; put 0; push 2; del 0", "7 1 0 0 1"},
		{"; push 1; push 7; put 0; push 1; del 0; push 1; push 9; put 0", "9 1 0 0 1"},
		{"; push 1; push 7; put 0; push 2; push 8; put 0; clear 0", "0 0 0 0 0"},
		{"; push 1; push 7; put 0; clear 0; push 2; push 8; put 0", "0 0 8 1 1"},
		{"; clear 0; push 1; del 0; clear 0", "0 0 0 0 0"},
	} {
		leaves(t, "P25.2", "0 1"+row.done+look, usual(), out(0, api.OK, row.want))
	}
}

// TestNumbersInMaps: P25.2: keys and values from all over the range.
func TestNumbersInMaps(t *testing.T) {
	lines, want := "0 1", []string{}
	for i, x := range edges {
		lines += fmt.Sprintf("; push %d; push %d; put 0", x, edges[len(edges)-1-i])
	}
	for i, x := range edges {
		lines += fmt.Sprintf("; push %d; get 0; push %d; has 0; push %d; has 0; print 3", x, x, x/2+100)
		want = append(want, fmt.Sprint(edges[len(edges)-1-i], " 1 0"))
	}
	leaves(t, "P25.2", lines+"; len 0; print 1", usual(), out(0, api.OK, append(want, fmt.Sprint(len(edges)))...))
}

// TestMapsOfTheirOwn: P25.2: what is done to a map is seen in no other.
func TestMapsOfTheirOwn(t *testing.T) {
	look := "; push 1; get 0; push 1; get 1; push 1; get 2; len 0; len 1; len 2; print 6"
	put := "0 3; push 1; push 5; put 0; push 1; push 6; put 1; push 1; push 7; put 2; push 2; push 8; put 2"
	leaves(t, "P25.2", put+look, usual(), out(0, api.OK, "5 6 7 1 1 2"))
	leaves(t, "P25.2", put+"; push 1; del 1"+look, usual(), out(0, api.OK, "5 0 7 1 0 2"))
	leaves(t, "P25.2", put+"; clear 2"+look, usual(), out(0, api.OK, "5 6 0 1 1 0"))
	leaves(t, "P25.2", put+"; clear 0; push 1; push 9; put 2"+look, usual(), out(0, api.OK, "0 6 9 0 1 2"))
}

// TestPutIsRefused: P25.2, P25.3: a put that there is no memory for ends the run; what lies ahead of it stays; a put of a key that is there is never refused.
func TestPutIsRefused(t *testing.T) {
	leaves(t, "P25.2", "0 1; tick; print 0; push 1; push 2; put 0; print 0", limited(64), out(1, api.ErrMemory, ""))
	loop := instructions("1 1; tick; load 0; load 0; put 0; push 0; load 0; put 0; load 0; print 1; load 0; push 1; add; store 0; jump 0")
	most := 0
	for limit := 64; limit < 40000; limit += 8 + limit/2000*128 {
		env := limited(limit)
		env.Fuel = 400
		o := asThePlain(t, "P25.2", loop, env)
		if limit < 15000 && o.Err != api.ErrMemory {
			t.Errorf("P25.2: with the limit %d the run leaves %s, want error %d", limit, toldOut(o), api.ErrMemory)
		}
		// Each turn but the last has put its key and added its line.
		if want := max(0, o.Steps-1); o.Err == api.ErrMemory && len(o.Lines) != want {
			t.Errorf("P25.3: with the limit %d the run leaves %s, want %d lines", limit, toldOut(o), want)
		}
		most = max(most, len(o.Lines))
	}
	if most < 200 {
		t.Errorf("the test puts too little: %d keys", most)
	}
}

// TestClearGivesBack: P25.2: a clear gives the map's memory back.
func TestClearGivesBack(t *testing.T) {
	turn := "; push 1; push 1; put 0; push 2; push 2; put 1; clear 0; clear 1; print 0"
	leaves(t, "P25.2", "0 2"+strings.Repeat(turn, 20), limited(2000), out(0, api.OK, make([]string, 20)...))
}

// TestPutWorksItOut: P25.2: the value lies uppermost, the key below it.
func TestPutWorksItOut(t *testing.T) {
	leaves(t, "P25.2", "0 1; push 5; push 1; push 2; put 0; push 1; get 0; push 2; get 0; print 3", usual(), out(0, api.OK, "5 2 0"))
	leaves(t, "P25.2", "0 2; push 3; push 4; put 1; push 8; push 3; get 1; push 9; put 0; push 4; get 0; print 2", usual(), out(0, api.OK, "8 9"))
}

// TestLongRuns: P25.2, P25.7: a run of very many steps over maps that grow and shrink.
func TestLongRuns(t *testing.T) {
	c := compiled("map m; while i < 100000 { m[i % 1000] = i; delete m[i * 7 % 1000]; if i % 10000 == 0 { print i, len m; } i = i + 1; } print len m, m[999];")
	env := api.Env{Limit: api.MaxLimit, Fuel: math.MaxInt}
	o := vm.Run(c, env)
	vals := map[int]int{}
	want := out(0, api.OK)
	for i := range 100000 {
		vals[i%1000] = i
		delete(vals, i*7%1000)
		want.Steps += 5
		if i%10000 == 0 {
			want.Lines = append(want.Lines, fmt.Sprint(i, " ", len(vals)))
			want.Steps++
		}
	}
	want.Lines = append(want.Lines, fmt.Sprint(len(vals), " ", vals[999]))
	want.Steps += 2
	if !same(o, want) {
		t.Errorf("P25.2: a long run leaves %s, want %s", toldOut(o), toldOut(want))
	}
}
