package walk_test

import (
	"fmt"
	"math"
	"slices"
	"testing"

	"larder/api"
)

// TestNext: P13.2: walks through maps that don't change: each pair once (U2, U3), what is pinned behind each Next, and nothing at the end.
func TestNext(t *testing.T) {
	eachStage(t, func(w *world, x *pair) {
		for _, draws := range [][2]uint64{{0, 0}, {1, 3}, {37, 13}, {math.MaxUint64, math.MaxUint64}} {
			s := w.open(x, draws[0], draws[1])
			w.sameAs("U3", w.through(s), x)
			if s.nexts != len(x.p.pairs)+1 {
				w.t.Fatalf("U6: %d Nexts of a map of %d keys", s.nexts, len(x.p.pairs))
			}
			for range 3 {
				w.next(s) // done for good
			}
			w.unpinned(x)
		}
	})
}

// TestNextOfNothing: P13.2, step 4: a walk that finds its map bare is done for good, whatever comes later.
func TestNextOfNothing(t *testing.T) {
	l := lay(t, descriptors[0])
	w := begin(t, 1<<20, l, ask(t))
	x := w.make(l, 7, 0)
	s := w.open(x, 3, 4)
	if p, yes := w.next(s); yes || !s.w.Done() {
		t.Fatalf("P13.2: of a bare map Next yields %q", p)
	}
	w.fill(x, 1, 30)
	if p, yes := w.next(s); yes {
		t.Fatalf("P13.2: a walk that is done yields %q", p)
	}
}

// TestMode: P13.2, step 4: what the map is at the first Next that counts, not at Open.
func TestMode(t *testing.T) {
	l := lay(t, descriptors[0])
	for atOpen := range 12 {
		for atNext := atOpen; atNext < 40; atNext++ {
			w := begin(t, 1<<20, l, ask(t))
			w.brief = true
			x := w.make(l, 7, 0)
			w.fill(x, 1, atOpen)
			s := w.open(x, 3, 4)
			w.fill(x, 1+atOpen, atNext-atOpen)
			w.next(s)
			mode := "large"
			switch {
			case atNext == 0:
				mode = ""
			case atNext <= 8:
				mode = "small"
			}
			if s.mode != mode {
				t.Fatalf("the mode is %q, want %q", s.mode, mode)
			}
			w.fill(x, 100, 20)
			w.through(s)
			if s.mode != mode || len(s.yielded) != atOpen {
				t.Fatalf("P13.2: opened with %d keys, first Next with %d: %d pairs, the mode is %q", atOpen, atNext, len(s.yielded), s.mode)
			}
			w.unpinned(x)
		}
	}
}

// TestModeStays: P13.2, step 5: a walk that stands on a small block goes through no table, though the map has some by then: all it may yield was in the block.
func TestModeStays(t *testing.T) {
	l := lay(t, descriptors[0])
	for n := 1; n <= 8; n++ {
		for at := 1; at <= n; at++ {
			w := begin(t, 1<<20, l, ask(t))
			w.brief = true
			x := w.make(l, 7, 0)
			w.fill(x, 1, n)
			s := w.open(x, 5, uint64(at))
			for range at {
				w.next(s)
			}
			block := x.p.block
			w.fill(x, 100, 60)
			if l, e := x.m.Retired(); !slices.Equal(l, []int{block.off}) || e != api.OK {
				t.Fatalf("W6: Retired = %v, error %d, want the small block", l, e)
			}
			w.through(s)
			if len(s.yielded) != n {
				t.Fatalf("P13.6: %d pairs of %d", len(s.yielded), n)
			}
			w.unpinned(x)
		}
	}
}

// bounds: a draw at each bound of a number of entries or slots, which is a power of two.
func bounds(n uint64) []uint64 {
	return []uint64{0, 1, n / 2, n - 1, n, n + 1, 2*n - 1, 2 * n, 2*n + 1, 1<<63 - 1, 1 << 63, 1<<63 + 1, math.MaxUint64 - n, math.MaxUint64 - n + 1, math.MaxUint64 - 1, math.MaxUint64}
}

// TestDraws: P13.2, steps 4 to 6: where a walk starts and in which order it goes, for draws at each bound, in maps of each depth, with tables at one entry and at many.
func TestDraws(t *testing.T) {
	shapes := []struct{ limit, hint, keys, slots int }{
		{16, 0, 8, 8}, {16, 9, 12, 16}, {64, 30, 25, 64}, {1024, 800, 60, 1024},
		{16, 15, 20, 16}, {16, 30, 30, 16}, {16, 60, 40, 16}, {16, 120, 60, 16}, {16, 240, 60, 16}, {16, 800, 60, 16}, {16, 3000, 60, 64},
		{16, 0, 60, 16}, {32, 0, 60, 32},
	}
	for i, sh := range shapes {
		for _, k := range []kind{kinds[0], kinds[4], kinds[5]} {
			t.Run(fmt.Sprint(sh, ", ", k.name), func(t *testing.T) {
				t.Parallel()
				l := lay(t, [5]int{1, 1, 1, 1, sh.limit})
				w := begin(t, 1<<20, l, ask(t, k.over(1)...))
				x := w.make(l, uint64(i), sh.hint)
				w.fill(x, 1, sh.keys)
				w.quiet = true
				ones, twos := bounds(uint64(max(1, len(x.p.entries)))), bounds(uint64(sh.slots))
				for n, one := range ones {
					for m, two := range twos {
						// Each with a few of the others: one draw picks the entries, the other the slots.
						if n%5 == 2 || m%5 == 2 {
							list := w.through(w.open(x, one, two))
							w.sameAs("U3", list, x)
							w.turned(x, one, two, list)
						}
					}
				}
				w.quiet = false
				w.holds("P13.8: all walks are done", x)
			})
		}
	}
}

// turned: the pairs come in the order of the entries from the draw on, in each table in that of the slots from the other draw on.
func (w *world) turned(x *pair, one, two uint64, list []api.Pair) {
	w.t.Helper()
	tables := x.p.current()
	if x.p.entries != nil {
		i := slices.Index(tables, x.p.entries[int(one%uint64(len(x.p.entries)))])
		tables = slices.Concat(tables[i:], tables[:i])
	}
	var want []api.Pair
	for _, p := range tables {
		i := int(two % uint64(len(p.cells)))
		for _, c := range slices.Concat(p.cells[i:], p.cells[:i]) {
			if c.Kind == api.CellFull {
				want = append(want, api.Pair{Key: c.Key, Elem: c.Elem})
			}
		}
	}
	if !slices.Equal(list, want) {
		w.t.Fatalf("P13.2: with the draws %d, %d: %.200q, want %.200q", one, two, list, want)
	}
}
