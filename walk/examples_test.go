package walk_test

import (
	"slices"
	"testing"

	"larder/api"
	"larder/oracle"
	"larder/swiss"
	"larder/walk"
)

// example: the map of the chapter's examples, with these keys, and a walk over it.
func example(t *testing.T, keys string, one, two uint64, over ...api.Over) (swiss.Map, *walk.Walk) {
	t.Helper()
	o, e := oracle.New(over...)
	answers(t, "oracle.New", e, api.OK)
	m, e := swiss.Make(fresh(t, 65536), lay(t, [5]int{1, 1, 1, 1, 16}), o, 0, 0)
	answers(t, "Make", e, api.OK)
	puts(t, m, keys, "x")
	w, e := walk.Open(m, one, two)
	answers(t, "Open", e, api.OK)
	return m, w
}

func puts(t *testing.T, m swiss.Map, keys, elem string) {
	t.Helper()
	for _, k := range keys {
		_, e := m.Put(string(k), elem)
		answers(t, "Put", e, api.OK)
	}
}

// gives: the Nexts answer these, a key and an elem each; "" is the end.
func gives(t *testing.T, w *walk.Walk, pairs ...string) {
	t.Helper()
	for _, want := range pairs {
		p, yes, e := w.Next()
		if p.Key+p.Elem != want || yes != (want != "") || e != api.OK || w.Done() != (want == "") {
			t.Fatalf("Next = %q, %v, error %d, done %v, want %q", p, yes, e, w.Done(), want)
		}
	}
}

// pinsAt80: the pins of the small block, which lies at 80.
func pinsAt80(t *testing.T, m swiss.Map, want int) {
	t.Helper()
	s, yes, e := m.Small()
	if !yes || e != api.OK || s.Off() != 80 {
		t.Fatalf("Small = at %d, %v, error %d", s.Off(), yes, e)
	}
	if st, e := s.Stat(); st.Pins != want || e != api.OK {
		t.Fatalf("the small block has %d pins, error %d, want %d", st.Pins, e, want)
	}
}

func retires(t *testing.T, m swiss.Map, want ...int) {
	t.Helper()
	if l, e := m.Retired(); !slices.Equal(l, want) || e != api.OK {
		t.Fatalf("Retired = %v, error %d, want %v", l, e, want)
	}
}

// TestExamples: the chapter's.
func TestExamples(t *testing.T) {
	t.Run("1", func(t *testing.T) {
		m, w := example(t, "", 0, 0)
		gives(t, w, "")
		if n := m.Arena().Live(); n != 64 {
			t.Fatalf("%d bytes are live, want the header's", n)
		}
	})
	t.Run("2", func(t *testing.T) {
		m, w := example(t, "abc", 5, 9)
		pinsAt80(t, m, 0)
		for _, pair := range []string{"bx", "cx", "ax"} {
			gives(t, w, pair)
			pinsAt80(t, m, 1)
		}
		gives(t, w, "")
		pinsAt80(t, m, 0)
	})
	t.Run("3", func(t *testing.T) {
		m, w := example(t, "abc", 0, 0)
		gives(t, w, "ax")
		puts(t, m, "a", "z")
		if was, e := m.Delete("b"); !was || e != api.OK {
			t.Fatalf("Delete = %v, error %d", was, e)
		}
		puts(t, m, "b", "y")
		s, _, _ := m.Small()
		if c, e := s.Cell(1); c.Key != "b" || c.Birth != 3 || e != api.OK {
			t.Fatalf("slot 1 holds %+v, error %d", c, e)
		}
		gives(t, w, "cx", "")
	})
	t.Run("4", func(t *testing.T) {
		m, w := example(t, "abc", 0, 0)
		gives(t, w, "ax")
		answers(t, "Clear", m.Clear(7), api.OK)
		gives(t, w, "", "")
	})
	t.Run("5", func(t *testing.T) {
		m, w := example(t, "abc", 0, 2)
		gives(t, w, "cx")
		puts(t, m, "defgh", "y")
		retires(t, m)
		puts(t, m, "i", "y")
		retires(t, m, 80)
		puts(t, m, "a", "z")
		gives(t, w, "az", "bx", "")
		retires(t, m)
		if _, e := m.Arena().Size(80); e != api.ErrBlock {
			t.Fatalf("the small block is live: error %d", e)
		}
	})
	t.Run("6", func(t *testing.T) {
		for _, keys := range []string{"a", "abc", "abcdefghi"} {
			m, w := example(t, "", 3, 4)
			puts(t, m, keys, "x")
			gives(t, w, "", "")
			if pinsOf(m) != 0 {
				t.Fatal("something is pinned behind the end")
			}
		}
	})
}

// TestWholeExamples: those of the document's ten that have a walk.
func TestWholeExamples(t *testing.T) {
	over := []api.Over{{Key: "a"}, {Key: "b", Hash: 1 << 63}, {Key: "c"}}
	t.Run("5", func(t *testing.T) {
		m, w := example(t, "abc", 0, 0, over...)
		gives(t, w, "ax")
		was, e := m.Delete("b")
		answers(t, "Delete", e, api.OK)
		added, e := m.Put("b", "y")
		answers(t, "Put", e, api.OK)
		if !was || !added {
			t.Fatalf("Delete = %v, Put = %v", was, added)
		}
		gives(t, w, "cx", "", "")
	})
	t.Run("6", func(t *testing.T) {
		m, w := example(t, "abc", 0, 0, over...)
		gives(t, w, "ax")
		answers(t, "Clear", m.Clear(7), api.OK)
		puts(t, m, "b", "x")
		gives(t, w, "")
		if n, e := m.Len(); n != 1 || e != api.OK {
			t.Fatalf("Len = %d, error %d", n, e)
		}
	})
}
