package walk_test

import (
	"fmt"
	"slices"
	"testing"

	"larder/api"
)

// TestClose: P13.3, P13.4: ahead of the first Next, behind each pair, at the end and behind that; once and twice; then every call answers as a done walk's.
func TestClose(t *testing.T) {
	eachStage(t, func(w *world, x *pair) {
		for at := range len(x.p.pairs) + 3 {
			// Of the greater maps not each pair, but the first ones and some others.
			if at > 10 && at%7 != 0 && at < len(x.p.pairs) {
				continue
			}
			s := w.open(x, uint64(at), uint64(3*at))
			for range at {
				w.next(s)
			}
			if s.w.Done() != (at > len(x.p.pairs)) {
				w.t.Fatalf("P13.3: behind %d Nexts of a map of %d keys Done is %v", at, len(x.p.pairs), s.w.Done())
			}
			for range 2 {
				w.close(s)
				w.next(s)
				for k := range s.w.Rest() {
					w.t.Fatalf("P13.5: the Rest of a closed walk gives %q", k)
				}
			}
			w.unpinned(x)
		}
	})
}

// TestCloseCleared: P13.4: of a map that was cleared meanwhile nothing is unpinned; the walk is done.
func TestCloseCleared(t *testing.T) {
	eachStage(t, func(w *world, x *pair) {
		for at := range 4 {
			s := w.open(x, 1, 2)
			for range at {
				w.next(s)
			}
			w.clear(x, uint64(at))
			w.fill(x, 1, 5*at)
			w.close(s)
			w.close(s)
			w.next(s)
			w.unpinned(x)
		}
	})
}

// TestSeveralOnOne: P13.4, P13.8: several walks stand on one block that is retired: it is free behind the last that leaves it, in whatever order and by whatever call.
func TestSeveralOnOne(t *testing.T) {
	orders := [][]int{{0, 1, 2}, {2, 1, 0}, {1, 2, 0}}
	for _, hint := range []int{0, 9} {
		for _, order := range orders {
			for ways := range 8 {
				t.Run(fmt.Sprint(hint, order, ways), func(t *testing.T) {
					w, x, first := stood(hint, 8, 0)(t)
					walks := []*stroll{first, w.open(x, 0, 3), w.open(x, 0, 7)}
					w.next(walks[1])
					w.next(walks[2])
					off := first.on.off
					w.fill(x, 30, 10)
					for n, i := range order {
						if l, e := x.m.Retired(); !slices.Equal(l, []int{off}) || e != api.OK {
							t.Fatalf("W6: with %d walks on it Retired = %v, error %d, want %d", 3-n, l, e, off)
						}
						if ways>>n&1 == 0 {
							w.close(walks[i])
						} else {
							w.through(walks[i])
						}
					}
					if l, e := x.m.Retired(); len(l) != 0 || e != api.OK {
						t.Fatalf("P13.8: with no walk on it Retired = %v, error %d", l, e)
					}
					if _, e := w.a.Size(off); e != api.ErrBlock {
						t.Fatalf("P13.8: the block at %d is live: error %d", off, e)
					}
					w.unpinned(x)
				})
			}
		}
	}
}

// TestSeveralRetired: P13.8: several blocks of one map are retired, a walk on each; they leave in several orders, and the others stay in their order.
func TestSeveralRetired(t *testing.T) {
	for _, order := range [][]int{{0, 1, 2, 3}, {3, 2, 1, 0}, {1, 3, 0, 2}, {2, 0, 3, 1}} {
		l := lay(t, [5]int{1, 1, 1, 1, 64})
		w := begin(t, 1<<18, l, ask(t))
		x := w.make(l, 7, 0)
		var walks []*stroll
		for i, n := range []int{8, 14, 28, 56} {
			have := len(x.p.pairs)
			w.fill(x, 1+have, n-have)
			walks = append(walks, w.open(x, uint64(i), uint64(i)))
			w.next(walks[i])
		}
		w.fill(x, 60, 6)
		if len(x.p.retired) != 4 {
			t.Fatalf("%d are retired, want 4", len(x.p.retired))
		}
		for n, i := range order {
			if n%2 == 0 {
				w.close(walks[i])
			} else {
				w.through(walks[i])
			}
			w.holds("P13.8: behind a walk that has left", x)
		}
		w.unpinned(x)
	}
}

// TestDoneChangesNothing: P13.3: Done may be asked at any time.
func TestDoneChangesNothing(t *testing.T) {
	l := lay(t, descriptors[0])
	w := begin(t, 1<<18, l, ask(t))
	x := w.make(l, 7, 0)
	w.fill(x, 1, 30)
	s := w.open(x, 5, 6)
	for range 32 {
		was := look(t, w.a)
		for range 3 {
			if s.w.Done() != s.done {
				t.Fatalf("P13.3: Done is %v, want %v", s.w.Done(), s.done)
			}
		}
		like(t, "P13.3: Done", w.a, was)
		w.next(s)
	}
	if !s.w.Done() {
		t.Fatal("P13.3: a walk at its end is not done")
	}
}
