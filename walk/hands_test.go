package walk_test

import (
	"math"
	"math/rand"
	"testing"

	"larder/api"
	"larder/small"
	"larder/swiss"
	"larder/table"
	"larder/walk"
)

// TestPinsFull: P13.2: where no more walks can stand on a block the error is handed on, and the walk is where it was: it goes on when there is room for it.
func TestPinsFull(t *testing.T) {
	refused := func(t *testing.T, w *walk.Walk) {
		t.Helper()
		for range 2 {
			if p, yes, e := w.Next(); p != (api.Pair{}) || yes || e != api.ErrPins || w.Done() {
				t.Fatalf("P13.2: Next = %q, %v, error %d, done %v, want error %d", p, yes, e, w.Done(), api.ErrPins)
			}
		}
		for k := range w.Rest() {
			t.Fatalf("P13.5: Rest gives %q", k)
		}
	}
	t.Run("a small block", func(t *testing.T) {
		m, w := example(t, "abc", 0, 0)
		s, _, _ := m.Small()
		s.Pin(api.MaxPins)
		refused(t, w)
		s.Pin(-api.MaxPins)
		gives(t, w, "ax", "bx", "cx", "")
		pinsAt80(t, m, 0)
	})
	t.Run("tables", func(t *testing.T) {
		over := []api.Over{{Key: "a"}, {Key: "b", Hash: 1 << 62}, {Key: "c", Hash: 2 << 62}, {Key: "d", Hash: 3 << 62}}
		m, e := swiss.Make(fresh(t, 1<<16), lay(t, [5]int{1, 1, 1, 1, 16}), ask(t, over...), 0, 50)
		answers(t, "Make", e, api.OK)
		puts(t, m, "abcd", "x")
		w, e := walk.Open(m, 1, 0)
		answers(t, "Open", e, api.OK)
		d, _, _ := m.Dir()
		for _, i := range []int{1, 2, 3, 0} {
			off, _ := d.Entry(i)
			tb := table.At(m.Arena(), m.Layout(), off)
			tb.Pin(api.MaxPins)
			refused(t, w)
			tb.Pin(-api.MaxPins)
			gives(t, w, string(rune('a'+i))+"x")
			if pinsOf(m) != 1 {
				t.Fatalf("P13.2: there are %d pins, want 1", pinsOf(m))
			}
		}
		gives(t, w, "")
		if pinsOf(m) != 0 {
			t.Fatalf("P13.8: there are %d pins", pinsOf(m))
		}
	})
}

// TestPinTaken: P13.2, P13.4: a pin that another has taken back can't be taken back again: the error is handed on, and a closed walk is done all the same.
func TestPinTaken(t *testing.T) {
	m, w := example(t, "abc", 0, 0)
	gives(t, w, "ax", "bx", "cx")
	answers(t, "Unpin", m.Unpin(80), api.OK)
	if p, yes, e := w.Next(); p != (api.Pair{}) || yes || e != api.ErrPins || w.Done() {
		t.Fatalf("P13.2: Next = %q, %v, error %d, done %v", p, yes, e, w.Done())
	}
	if e := w.Close(); e != api.ErrPins || !w.Done() {
		t.Fatalf("P13.4: Close: error %d, done %v", e, w.Done())
	}
	answers(t, "P13.4: Close again", w.Close(), api.OK)
}

// TestFreedBelow: P13.2: what a walk stands on, or would step on, is free: the error is handed on.
func TestFreedBelow(t *testing.T) {
	dead := func(t *testing.T, w *walk.Walk) {
		t.Helper()
		if p, yes, e := w.Next(); p != (api.Pair{}) || yes || e != api.ErrDead || w.Done() {
			t.Fatalf("P13.2: Next = %q, %v, error %d, done %v", p, yes, e, w.Done())
		}
	}
	for _, keys := range []string{"abc", "abcdefghijkl"} {
		for first := range 2 {
			m, w := example(t, keys, 0, 0)
			for range first {
				_, _, e := w.Next()
				answers(t, "Next", e, api.OK)
			}
			if s, yes, _ := m.Small(); yes {
				answers(t, "Free", s.Free(), api.OK)
			}
			if d, yes, _ := m.Dir(); yes {
				off, _ := d.Entry(0)
				answers(t, "Free", table.At(m.Arena(), m.Layout(), off).Free(), api.OK)
			}
			dead(t, w)
			w.Close()
			if !w.Done() {
				t.Fatal("P13.4: behind Close a walk is not done")
			}
		}
	}
	t.Run("the directory", func(t *testing.T) {
		m, w := example(t, "abcdefghijkl", 0, 0)
		d, _, _ := m.Dir()
		answers(t, "Free", d.Free(), api.OK)
		dead(t, w)
	})
	t.Run("the groups", func(t *testing.T) {
		m, w := example(t, "abcdefghijkl", 0, 0)
		d, _, _ := m.Dir()
		off, _ := d.Entry(0)
		st, _ := table.At(m.Arena(), m.Layout(), off).Stat()
		answers(t, "Free", m.Arena().Free(st.Groups), api.OK)
		dead(t, w)
	})
	t.Run("a table that took over", func(t *testing.T) {
		// The walk stands on the retired small block, and what it asks the map for is refused.
		m, w := example(t, "abcdefgh", 0, 0)
		gives(t, w, "ax")
		puts(t, m, "i", "x")
		d, _, _ := m.Dir()
		answers(t, "Free", d.Free(), api.OK)
		dead(t, w)
		if st, e := small.At(m.Arena(), m.Layout(), 80).Stat(); st.Pins != 1 || e != api.OK {
			t.Fatalf("P13.2: the small block has %d pins, error %d", st.Pins, e)
		}
	})
}

// words: numbers that no header has, and some that it may have.
var words = []int{math.MinInt, -1 << 40, -8, -2, -1, 0, 1, 2, 3, 4, 5, 6, 7, 8, 16, 63, 64, 80, 128, 1 << 16, 1 << 40, 1 << 61, 1 << 62, math.MaxInt}

// survives: the walk's calls end, without a panic, whatever stands in the blocks.
func survives(t *testing.T, what string, w *walk.Walk) {
	t.Helper()
	defer func() {
		if x := recover(); x != nil {
			t.Fatalf("W1: %s: %v", what, x)
		}
	}()
	for range 3 {
		p, yes, e := w.Next()
		if (!yes || e != api.OK) && p != (api.Pair{}) || yes && e != api.OK {
			t.Fatalf("%s: beside an error or the end Next gives %q, %v, error %d", what, p, yes, e)
		}
	}
	n := 0
	for range w.Rest() {
		if n++; n > 1<<20 {
			t.Fatalf("W1: %s: Rest doesn't end", what)
		}
	}
	w.Close()
	if !w.Done() {
		t.Fatalf("%s: behind Close the walk is not done", what)
	}
}

// TestSpoilt: W1: each word of the map's header, of the directory and of a table's or small block's header is another one; the walk has no mode yet, stands in the midst, stands on a retired one.
func TestSpoilt(t *testing.T) {
	for _, keys := range []string{"abc", "abcdefghijkl", "abcdefghijklmnopqrstuvwxyzABCDEFGHIJKLMNOPQRSTUVWXYZ"} {
		for _, first := range []int{0, 1, 3} {
			for _, more := range []string{"", "0123456789"} {
				m, w := example(t, keys, 1, 1)
				for range first {
					w.Next()
				}
				puts(t, m, more, "y")
				var offs []int
				for off, size := range m.Arena().Blocks() {
					for i := 0; i < min(size, 64); i += 8 {
						offs = append(offs, off+i)
					}
				}
				for i, off := range offs {
					for k, v := range words {
						// Of the greater maps not each word with each number.
						if len(offs) > 100 && (i+k)%7 != 0 {
							continue
						}
						a := twin(t, m.Arena())
						n := swiss.At(a, m.Layout(), ask(t), m.Off())
						s, e := walk.Open(n, 1, 1)
						answers(t, "Open", e, api.OK)
						for range first {
							s.Next()
						}
						answers(t, "Store", a.Store(off, 8, uint64(v)), api.OK)
						survives(t, "a spoilt word", s)
					}
				}
			}
		}
	}
}

// TestNoise: W1: many words at once are noise.
func TestNoise(t *testing.T) {
	r := rand.New(rand.NewSource(5))
	for range 600 {
		keys := "abcdefghijklmnopqrstuvwxyzABCDEFGHIJKLMNOPQRSTUVWXYZ"[:1+r.Intn(52)]
		m, w := example(t, keys, r.Uint64(), r.Uint64())
		for range r.Intn(len(keys) + 1) {
			w.Next()
		}
		puts(t, m, "0123456789"[:r.Intn(11)], "y")
		for off, size := range m.Arena().Blocks() {
			for range r.Intn(4) {
				v := words[r.Intn(len(words))]
				if r.Intn(2) == 0 {
					v = r.Intn(m.Arena().End())
				}
				m.Arena().Store(off+r.Intn(size/8)*8, 8, uint64(v))
			}
		}
		survives(t, "noise", w)
	}
}

// TestTakenAgain: W1, P13.9: where the map's header has been taken again by another map, nothing is said of its old walks but that their calls end.
func TestTakenAgain(t *testing.T) {
	all := "abcdefghijklmnopqrstuvwxyzABCDEFGHIJKLMNOPQRSTUVWXYZ"
	sizes := []int{0, 3, 8, 9, 20, 52}
	for _, before := range sizes {
		for _, after := range sizes {
			for first := range 4 {
				m, w := example(t, all[:before], 5, 5)
				for range first {
					w.Next()
				}
				answers(t, "Release", m.Release(), api.OK)
				n, e := swiss.Make(m.Arena(), m.Layout(), ask(t), 3, 0)
				answers(t, "Make", e, api.OK)
				puts(t, n, all[:after], "n")
				if n.Off() != m.Off() {
					t.Fatalf("the other map lies at %d, want %d", n.Off(), m.Off())
				}
				survives(t, "a header that was taken again", w)
			}
		}
	}
}
