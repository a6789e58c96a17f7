package walk_test

import (
	"fmt"
	"math"
	"testing"

	"larder/api"
)

// quarters: overrides by which the keys 16q+1 to 16q+16 belong to the quarter q of a directory; the first of them, so many, have the home 0, the others the home 1. Beyond the quarter's two top bits they are alike, or every other one is apart from those by the next bit.
func quarters(first int, apart uint64) []api.Over {
	return overs(1, func(i int) uint64 {
		q, n := uint64(i-1)/16, (i-1)%16
		home := uint64(0)
		if n >= first {
			home = 1
		}
		return q<<62 | uint64(n%2)*apart | hash(home, n)
	})
}

// change: what is done to one of four tables. Its keys are 16q+1 to 16q+16.
type change struct {
	name    string
	hint    int
	first   int // how many keys have the home 0
	apart   uint64
	prepare func(w *world, x *pair, q int)
	do      func(w *world, x *pair, q int)
	step    string // what the last put of it must have done
}

func (w *world) putAll(x *pair, q int, keys ...int) {
	w.t.Helper()
	for _, n := range keys {
		w.put(x, 16*q+n, n)
	}
}

func (w *world) deleteAll(x *pair, q int, keys ...int) {
	w.t.Helper()
	for _, n := range keys {
		w.delete(x, 16*q+n)
	}
}

var changes = []change{
	{"pruned", 50, 8, 0,
		// Those in group 1 have their home there: they don't need the marks of group 0.
		func(w *world, x *pair, q int) { w.putAll(x, q, 1, 2, 3, 4, 5, 6, 7, 8, 9, 10, 11, 12, 13, 14) },
		func(w *world, x *pair, q int) {
			w.deleteAll(x, q, 3)
			w.putAll(x, q, 15)
		}, "prune"},
	{"renewed", 50, 12, 0,
		// Four keys of home 0 lie behind the full group 0: they need its marks.
		func(w *world, x *pair, q int) { w.putAll(x, q, 1, 2, 3, 4, 5, 6, 7, 8, 9, 10, 11, 12, 13, 14) },
		func(w *world, x *pair, q int) {
			w.deleteAll(x, q, 1, 2, 3, 4, 5, 6, 7)
			w.putAll(x, q, 15)
		}, "renewal"},
	{"doubled", 800, 16, 0,
		func(w *world, x *pair, q int) { w.putAll(x, q, 1, 2, 3, 4, 5, 6, 7, 8, 9, 10, 11, 12, 13, 14) },
		func(w *world, x *pair, q int) { w.putAll(x, q, 15) }, "doubling above the cap"},
	{"split", 50, 12, 0,
		func(w *world, x *pair, q int) { w.putAll(x, q, 1, 2, 3, 4, 5, 6, 7, 8, 9, 10, 11, 12, 13, 14) },
		func(w *world, x *pair, q int) { w.putAll(x, q, 15) }, "high table"},
	{"split in halves", 50, 12, 1 << 61,
		func(w *world, x *pair, q int) { w.putAll(x, q, 1, 2, 3, 4, 5, 6, 7, 8, 9, 10, 11, 12, 13, 14) },
		func(w *world, x *pair, q int) { w.putAll(x, q, 15) }, "high table"},
}

// TestChanged: P13.2, P13.6: a walk has passed the table 1 and stands on the table 2, at its pairs; a table is pruned, renewed, doubled or split: that one, the one behind it, one ahead of it, the last, or all of them.
func TestChanged(t *testing.T) {
	which := [][]int{{0}, {1}, {2}, {3}, {2, 2}, {0, 1, 2, 3}, {3, 2, 1, 0}}
	for _, c := range changes {
		for _, qs := range which {
			t.Run(fmt.Sprint(c.name, " ", qs), func(t *testing.T) {
				t.Parallel()
				by := 4
				if qs[0] == 2 {
					by = 1 // the one that the walk stands on
				}
				for at := 1; ; at += by {
					w, x := c.world(t)
					quarter := len(x.p.entries) / 4
					s := w.open(x, uint64(quarter), uint64(at))
					other := w.open(x, 0, uint64(3*at))
					for s.on != x.p.entries[2*quarter] {
						w.next(s)
					}
					for range at - 1 {
						w.next(s)
					}
					if s.on != x.p.entries[2*quarter] {
						return
					}
					w.changed(c, x, qs)
					w.looks("P13.8: behind a change", x)
					w.next(other)
					w.through(s)
					w.through(other)
					w.sameAs("a walk that was opened behind all changes", w.through(w.open(x, 2, 2)), x)
					w.looks("P13.8: all walks are done", x)
					w.unpinned(x)
				}
			})
		}
	}
}

// world: a map of four tables, or of sixty-four of which four have keys, in which the change can be made.
func (c change) world(t *testing.T) (*world, *pair) {
	t.Helper()
	l := lay(t, [5]int{1, 1, 1, 1, 16})
	w := begin(t, 1<<18, l, ask(t, quarters(c.first, c.apart)...))
	w.quiet = true
	x := w.make(l, 7, c.hint)
	for q := range 4 {
		c.prepare(w, x, q)
	}
	w.brief = true
	w.looks("the map ahead of its change", x)
	// Of sixty-four tables it would take long to look at all behind each call.
	w.quiet = len(x.p.entries) > 4
	return w, x
}

// changed: the changes are made to these tables: one that has been changed gets all the keys that are left, and loses some.
func (w *world) changed(c change, x *pair, qs []int) {
	w.t.Helper()
	seen := map[int]bool{}
	for _, q := range qs {
		was := w.g.steps[c.step]
		if seen[q] {
			w.deleteAll(x, q, 2, 13)
			w.putAll(x, q, 16, 2, 3, 1)
			continue
		}
		seen[q] = true
		c.do(w, x, q)
		if w.g.steps[c.step] == was {
			w.t.Fatalf("the table was not %s: %v", c.name, w.g.steps)
		}
	}
}

// TestDoubledBelowTheCap: P13.2, P13.6: a map of one table that is doubled while a walk stands on it, at each pair, and once more.
func TestDoubledBelowTheCap(t *testing.T) {
	for _, k := range kinds {
		for at := 1; at <= 12; at++ {
			l := lay(t, [5]int{1, 1, 1, 1, 64})
			w := begin(t, 1<<18, l, ask(t, k.over(1)...))
			w.brief = true
			x := w.make(l, 7, 0)
			w.fill(x, 1, 12)
			s, late := w.open(x, 1, uint64(at)), w.open(x, 1, uint64(at))
			for range at {
				w.next(s)
			}
			w.fill(x, 20, 15)
			w.next(late)
			w.fill(x, 40, 20)
			happened(t, w.g.steps, 2, "doubling")
			w.through(s)
			w.through(late)
			if len(s.yielded) != 12 || len(late.yielded) != 12 {
				t.Fatalf("P13.6: %d and %d pairs, want 12 both", len(s.yielded), len(late.yielded))
			}
			w.unpinned(x)
		}
	}
}

// TestWidened: P13.2, step 5: the directory widens between two Nexts, once and several times, in maps of each depth; from each entry on.
func TestWidened(t *testing.T) {
	for _, hint := range []int{9, 15, 30, 60, 120, 240} {
		t.Run(fmt.Sprint("hint ", hint), func(t *testing.T) {
			t.Parallel()
			l := lay(t, [5]int{1, 1, 1, 1, 16})
			for _, one := range []uint64{0, 1, 2, 3, 7, 8, 15, 31, 32, 33, math.MaxUint64} {
				for at := range 4 {
					w := begin(t, 1<<18, l, ask(t, overs(1, func(i int) uint64 {
						// Two crowds that share all top bits, and others apart from each other.
						return []uint64{5, 1<<64 - 1, uint64(i) * 37 << 58}[i%3]
					})...))
					w.brief, w.quiet = true, true
					x := w.make(l, 7, hint)
					w.fill(x, 1, 20)
					s := w.open(x, one, one)
					depth := x.p.depth()
					for range 5 * at {
						w.next(s)
					}
					for n := range 4 {
						w.fill(x, 21+11*n, 11)
						w.next(s)
					}
					w.quiet = false
					w.holds("P13.8: in a widened directory", x)
					w.through(s)
					if x.p.depth() != 6 || depth == 6 || len(s.yielded) != 20 {
						t.Fatalf("P13.6: %d pairs, want 20; the depth went from %d to %d", len(s.yielded), depth, x.p.depth())
					}
					w.unpinned(x)
				}
			}
		})
	}
}

// TestPromoted: P13.2: a small block becomes a table ahead of the walk's first step, at each of its pairs, and behind its end; the promotion is refused for memory, and then is not.
func TestPromoted(t *testing.T) {
	for _, k := range kinds {
		for at := range 10 {
			l := lay(t, descriptors[0])
			w := begin(t, 1<<16, l, ask(t, k.over(1)...))
			w.brief = true
			x := w.make(l, 7, 0)
			w.fill(x, 1, 8)
			s := w.open(x, 1, uint64(at))
			for range at {
				w.next(s)
			}
			w.put(x, 9, 9)
			if want := min(1, at%9); len(x.p.retired) != want {
				t.Fatalf("W6: behind %d Nexts %d are retired, want %d", at, len(x.p.retired), want)
			}
			w.put(x, 3, 77)
			w.through(s)
			if len(s.yielded) != 8 {
				t.Fatalf("P13.6: %d pairs, want 8", len(s.yielded))
			}
			w.unpinned(x)
		}
	}
}

// TestRefused: P13.2, P13.6: steps of growth that are refused for memory while walks stand on the tables.
func TestRefused(t *testing.T) {
	for _, k := range kinds {
		for limit := 300; limit < 6000; limit += 450 {
			l := lay(t, descriptors[0])
			w := begin(t, limit, l, ask(t, k.over(1)...))
			w.brief = true
			x := w.make(l, 7, 0)
			for i := range 50 {
				if i%5 == 0 {
					w.open(x, uint64(i), uint64(i))
				}
				for _, s := range w.over(x) {
					if i%3 == 0 {
						w.next(s)
					}
				}
				w.put(x, 1+i, i)
			}
			for len(w.walks) > 0 {
				w.through(w.walks[0])
			}
			w.unpinned(x)
		}
	}
}
