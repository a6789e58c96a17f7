package walk_test

import (
	"fmt"
	"testing"

	"larder/api"
)

// standing: a walk that stands on something with the keys 1 to 8, of which it has yielded the first two.
type standing struct {
	name string
	make func(t *testing.T) (*world, *pair, *stroll)
}

// stood: a map with that hint and the keys 1 to n, and a walk behind its second pair; then so many further keys are put.
func stood(hint, n, more int) func(t *testing.T) (*world, *pair, *stroll) {
	return func(t *testing.T) (*world, *pair, *stroll) {
		t.Helper()
		l := lay(t, [5]int{1, 1, 1, 1, 16})
		w := begin(t, 1<<18, l, ask(t, overs(1, func(i int) uint64 { return hash(0, i) })...))
		x := w.make(l, 7, hint)
		w.fill(x, 1, n)
		s := w.open(x, 0, 0)
		w.yields(s, 1)
		w.yields(s, 2)
		w.fill(x, 30, more)
		if retired := len(x.p.retired) == 1; retired != (more > 0) {
			t.Fatalf("%d are retired", len(x.p.retired))
		}
		return w, x, s
	}
}

var standings = []standing{
	{"a small block", stood(0, 8, 0)},
	{"a retired small block", stood(0, 8, 1)},
	{"a retired small block of a map that grew on", stood(0, 8, 30)},
	{"a table", stood(9, 8, 0)},
	{"a retired table", stood(9, 8, 7)},
	{"a retired table of a map that grew on", stood(9, 8, 40)},
}

// yields: Next gives the key of that number.
func (w *world) yields(s *stroll, key int) {
	w.t.Helper()
	if p, yes := w.next(s); !yes || p.Key != text(s.x.p.l.Key, key) {
		w.t.Fatalf("P13.2: Next gives %q, %v, want the key %d", p, yes, key)
	}
}

// ends: Next gives no more.
func (w *world) ends(s *stroll) {
	w.t.Helper()
	if p, yes := w.next(s); yes {
		w.t.Fatalf("P13.2: Next gives %q, want the end", p)
	}
	w.unpinned(s.x)
}

// TestLives: P13.2, step 6: what is done to keys that the walk has yielded, and to keys that it has not, in blocks that are retired and that are not.
func TestLives(t *testing.T) {
	for _, st := range standings {
		t.Run(st.name, func(t *testing.T) {
			t.Run("elems replaced", func(t *testing.T) {
				w, x, s := st.make(t)
				for i := 1; i <= 8; i++ {
					w.put(x, i, 50+i)
				}
				for i := 3; i <= 8; i++ {
					p, yes := w.next(s)
					if want := (api.Pair{Key: text(1, i), Elem: text(1, 50+i)}); p != want || !yes {
						t.Fatalf("P13.2: Next gives %q, %v, want %q: the elem of the moment", p, yes, want)
					}
					w.put(x, i+1, 90+i)
					w.put(x, i+1, 50+i+1)
				}
				w.ends(s)
			})
			t.Run("deleted", func(t *testing.T) {
				w, x, s := st.make(t)
				for _, i := range []int{1, 4, 5, 8} {
					w.delete(x, i)
				}
				w.yields(s, 3)
				w.delete(x, 6)
				w.yields(s, 7)
				w.ends(s)
			})
			t.Run("deleted and put again", func(t *testing.T) {
				w, x, s := st.make(t)
				for _, i := range []int{1, 2, 4, 5, 8} {
					w.delete(x, i)
					w.put(x, i, 60+i)
				}
				w.yields(s, 3)
				w.delete(x, 3)
				w.put(x, 3, 63)
				w.yields(s, 6)
				w.delete(x, 7)
				w.put(x, 7, 67)
				w.delete(x, 7)
				w.put(x, 7, 77)
				w.ends(s)
			})
			t.Run("all deleted", func(t *testing.T) {
				w, x, s := st.make(t)
				for i := 1; i <= 8; i++ {
					w.delete(x, i)
				}
				w.ends(s)
			})
			t.Run("all deleted and put in another order", func(t *testing.T) {
				w, x, s := st.make(t)
				for i := 1; i <= 8; i++ {
					w.delete(x, i)
				}
				for i := 8; i >= 1; i-- {
					w.put(x, i, i)
				}
				w.ends(s)
			})
		})
	}
}

// TestFirstBirth: P13.2, step 6: the first key of all has the birth 0, as has the cell of zeros that stands for a key that is not there: in a retired block it must not be taken for it.
func TestFirstBirth(t *testing.T) {
	for _, hint := range []int{0, 9} {
		l := lay(t, [5]int{1, 1, 1, 1, 16})
		w := begin(t, 1<<18, l, ask(t, overs(1, func(i int) uint64 { return hash(0, i) })...))
		x := w.make(l, 7, hint)
		w.fill(x, 1, 8)
		s := w.open(x, 0, 1)
		w.yields(s, 2)
		w.fill(x, 30, 20)
		w.delete(x, 1)
		w.delete(x, 5)
		if len(x.p.retired) != 1 || x.p.retired[0].cells[0].Birth != 0 {
			t.Fatal("the key of birth 0 lies in no retired block")
		}
		for _, i := range []int{3, 4, 6, 7, 8} {
			w.yields(s, i)
		}
		w.ends(s)
	}
}

// TestCleared: P13.2, step 3: behind a clear a walk is done at its next step, whatever has been put since; and what stands at the old place by now keeps its pins.
func TestCleared(t *testing.T) {
	for _, n := range []int{0, 1, 3, 8, 9, 20, 50} {
		for clears := 1; clears <= 3; clears++ {
			for _, again := range []int{0, 1, 8, 20} {
				t.Run(fmt.Sprint(n, clears, again), func(t *testing.T) {
					l := lay(t, descriptors[0])
					w := begin(t, 1<<18, l, ask(t))
					w.brief = true
					x := w.make(l, 7, 0)
					w.fill(x, 1, n)
					fresh, stands, far := w.open(x, 0, 0), w.open(x, 1, 1), w.open(x, 2, 2)
					w.next(stands)
					for range n/2 + 1 {
						w.next(far)
					}
					if n > 9 {
						w.fill(x, 60, 30) // something is retired
					}
					for i := range clears {
						w.clear(x, uint64(i))
						if fresh.w.Done() || n > 0 && stands.w.Done() {
							t.Fatal("P13.3: a walk over a cleared map is done ahead of its next step")
						}
						w.fill(x, 1, again)
					}
					young := w.open(x, 3, 3)
					w.next(young)
					for _, s := range []*stroll{fresh, stands, far} {
						if p, yes := w.next(s); yes || !s.w.Done() {
							t.Fatalf("P13.2: behind a clear Next gives %q, done %v", p, s.w.Done())
						}
					}
					w.through(young)
					if len(young.yielded) != again {
						t.Fatalf("P13.6: %d pairs, want %d", len(young.yielded), again)
					}
					w.unpinned(x)
				})
			}
		}
	}
}

// TestSamePlace: P13.2, P13.4: a clear frees what a walk stood on; the next small block lies at the same offset, and another walk's pin on it is not the first one's to take back.
func TestSamePlace(t *testing.T) {
	for _, end := range []string{"Next", "Close"} {
		l := lay(t, descriptors[0])
		w := begin(t, 1<<18, l, ask(t))
		x := w.make(l, 7, 0)
		w.fill(x, 1, 3)
		old := w.open(x, 0, 0)
		w.next(old)
		at := x.p.block.off
		w.clear(x, 8)
		w.fill(x, 1, 3)
		if x.p.block.off != at {
			t.Fatalf("the new small block lies at %d, want %d", x.p.block.off, at)
		}
		young := w.open(x, 0, 0)
		w.next(young)
		if end == "Next" {
			w.next(old)
		} else {
			w.close(old)
		}
		block, _, _ := x.m.Small()
		if st, e := block.Stat(); st.Pins != 1 || e != api.OK {
			t.Fatalf("P13.2, P13.4: behind a clear and a %s another walk's block has %d pins, error %d", end, st.Pins, e)
		}
		w.fill(x, 20, 6)
		if len(x.p.retired) != 1 {
			t.Fatal("the small block was not kept for the young walk")
		}
		w.through(young)
		w.unpinned(x)
	}
}
