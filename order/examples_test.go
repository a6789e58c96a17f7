package order_test

import (
	"slices"
	"strings"
	"testing"

	"larder/api"
)

// keysOf: the keys of pairs, behind one another.
func keysOf(p plain) string {
	var s strings.Builder
	for _, x := range p {
		s.WriteString(x.Key)
	}
	return s.String()
}

// TestExamples: the chapter's table, line by line.
func TestExamples(t *testing.T) {
	a := open(t, 65536)
	x := made(t, a, lay(t, [5]int{1, 1, 1, 1, 16}))
	if x.Off() != 16 || a.Live() != 64 {
		t.Errorf("New: the offset %d, %d live bytes", x.Off(), a.Live())
	}
	put := func(key, elem string, want bool, err api.Errno) {
		t.Helper()
		if added, e := x.Put(key, elem); added != want || e != err {
			t.Errorf("Put(%q, %q): %v, %d, want %v, %d", key, elem, added, e, want, err)
		}
	}
	get := func(key, want string, there bool, err api.Errno) {
		t.Helper()
		if v, ok, e := x.Get(key); v != want || ok != there || e != err {
			t.Errorf("Get(%q): %q, %v, %d, want %q, %v, %d", key, v, ok, e, want, there, err)
		}
	}
	stat := func(want api.OrderStat) {
		t.Helper()
		if s, e := x.Stat(); s != want || e != api.OK {
			t.Errorf("Stat: %v, %d, want %v", s, e, want)
		}
	}
	near := func(text, floor, ceiling string) {
		t.Helper()
		p, low, e := x.Floor(text)
		q, high, f := x.Ceiling(text)
		if p.Key != floor || low != (floor != "") || q.Key != ceiling || high != (ceiling != "") || e != api.OK || f != api.OK {
			t.Errorf("of %q: Floor %q, %v, %d, Ceiling %q, %v, %d, want %q, %q", text, p.Key, low, e, q.Key, high, f, floor, ceiling)
		}
	}
	rank := func(text string, want int) {
		t.Helper()
		if n, e := x.Rank(text); n != want || e != api.OK {
			t.Errorf("Rank(%q): %d, %d, want %d", text, n, e, want)
		}
	}
	nth := func(i int, want api.Pair) {
		t.Helper()
		if p, ok, e := x.Nth(i); p != want || ok != (want.Key != "") || e != api.OK {
			t.Errorf("Nth(%d): %q, %v, %d, want %q", i, p, ok, e, want)
		}
	}
	ranges := func(from, to, rising, falling string) {
		t.Helper()
		if got := keysOf(pairs(x.Range(from, to), 99)); got != rising {
			t.Errorf("Range(%q, %q): %s, want %s", from, to, got, rising)
		}
		if got := keysOf(pairs(x.Back(from, to), 99)); got != falling {
			t.Errorf("Back(%q, %q): %s, want %s", from, to, got, falling)
		}
	}
	cut := func(from, to string, want int) {
		t.Helper()
		if n, e := x.Cut(from, to); n != want || e != api.OK {
			t.Errorf("Cut(%q, %q): %d, %d, want %d", from, to, n, e, want)
		}
	}
	drop := func(key string, want bool) {
		t.Helper()
		if was, e := x.Delete(key); was != want || e != api.OK {
			t.Errorf("Delete(%q): %v, %d, want %v", key, was, e, want)
		}
	}
	stat(api.OrderStat{})
	nth(0, api.Pair{})
	near("z", "", "")
	rank("z", 0)
	cut("", "z", 0)
	put("d", "1", true, api.OK)
	put("b", "2", true, api.OK)
	put("f", "3", true, api.OK)
	put("b", "4", false, api.OK)
	stat(api.OrderStat{Used: 3, Height: 1, Nodes: 1})
	get("b", "4", true, api.OK)
	get("c", "", false, api.OK)
	get("", "", false, api.ErrKeyWidth)
	near("e", "d", "f")
	near("d", "d", "d")
	near("dd", "d", "f")
	near("a", "", "b")
	near("g", "f", "")
	rank("", 0)
	rank("d", 1)
	rank("dx", 2)
	rank("zz", 3)
	nth(0, api.Pair{Key: "b", Elem: "4"})
	nth(2, api.Pair{Key: "f", Elem: "3"})
	nth(3, api.Pair{})
	nth(-1, api.Pair{})
	ranges("b", "f", "bd", "db")
	ranges("", "zz", "bdf", "fdb")
	ranges("f", "b", "", "")
	ranges("", "\xff\xff", "bdf", "fdb")
	var seen []string
	for k := range x.Range("", "z") {
		seen = append(seen, k)
		if k == "d" {
			put("a", "8", true, api.OK)
			put("e", "9", true, api.OK)
		}
	}
	if !slices.Equal(seen, []string{"b", "d", "e", "f"}) {
		t.Errorf("a range whose body puts: %q", seen)
	}
	put("g", "", false, api.ErrElemWidth)
	put("gg", "", false, api.ErrKeyWidth)
	put("h", "5", true, api.OK)
	put("i", "6", true, api.OK)
	stat(api.OrderStat{Used: 7, Height: 1, Nodes: 1})
	put("c", "7", true, api.OK)
	stat(api.OrderStat{Used: 8, Height: 2, Nodes: 3})
	cut("c", "g", 4)
	stat(api.OrderStat{Used: 4, Height: 1, Nodes: 1})
	ranges("", "z", "abhi", "ihba")
	drop("a", true)
	drop("a", false)
	answers(t, "Free", x.Free(), api.OK)
	answers(t, "Free again", x.Free(), api.ErrDead)
	get("", "", false, api.ErrDead)
	if a.Live() != 0 {
		t.Errorf("%d bytes are live at the end", a.Live())
	}
}
