package walk_test

import (
	"maps"
	"math"
	"testing"

	"larder/api"
	"larder/swiss"
	"larder/walk"
)

// TestOpen: P13.1: a walk that is not done; no byte of the arena has changed, nothing is pinned, however many are opened.
func TestOpen(t *testing.T) {
	eachStage(t, func(w *world, x *pair) {
		was := look(w.t, w.a)
		for _, one := range []uint64{0, 1, 5, math.MaxUint64} {
			for _, two := range []uint64{0, 9, math.MaxUint64} {
				w.open(x, one, two)
				like(w.t, "P13.1: behind Open", w.a, was)
			}
		}
		for _, s := range w.over(x) {
			if s.w.Done() {
				w.t.Fatal("P13.1: a walk that was just opened is done")
			}
		}
	})
}

// TestOpenWithoutMemory: P13.1, W8: to open a walk and to go through it takes no block: it can be done where not a byte is left.
func TestOpenWithoutMemory(t *testing.T) {
	eachStage(t, func(w *world, x *pair) {
		for size := 1 << 17; size >= 16; size /= 2 {
			for w.a.Live()+size <= w.a.Limit() {
				w.strangeBlock(size)
			}
		}
		w.quiet = true
		list := w.through(w.open(x, 3, 5))
		w.quiet = false
		w.sameAs("P13.1, W8", list, x)
		w.holds("P13.1, W8: all walks are done", x)
	})
}

// strangeBlock: a block that is no map's is taken.
func (w *world) strangeBlock(size int) {
	w.t.Helper()
	off, e := w.a.Alloc(size)
	answers(w.t, "Alloc", e, api.OK)
	offs, ok := w.g.take(size)
	if !ok || offs[0] != off {
		w.t.Fatalf("a block of %d bytes at %d, want %v", size, off, offs)
	}
	s, _ := w.a.Read(off, w.g.size(off))
	w.strange[off] = s
}

// TestOpenDead: P13.1: over a map that is dead none is opened.
func TestOpenDead(t *testing.T) {
	refused := func(t *testing.T, what string, m swiss.Map) {
		t.Helper()
		for _, draw := range []uint64{0, 7, math.MaxUint64} {
			if v, e := walk.Open(m, draw, draw); v != nil || e != api.ErrDead {
				t.Fatalf("P13.1: Open of %s: %v, error %d, want nil, %d", what, v, e, api.ErrDead)
			}
		}
	}
	eachStage(t, func(w *world, x *pair) {
		w.release(x)
		was := look(w.t, w.a)
		refused(w.t, "a released map", x.m)
		like(w.t, "P13.1: a refused Open", w.a, was)
	})
	refused(t, "the zero map", swiss.Map{})
	a := fresh(t, 4096)
	for _, off := range []int{math.MinInt, -1, 0, 16, 17, 4096, math.MaxInt} {
		refused(t, "a map that never was", swiss.At(a, lay(t, descriptors[0]), ask(t), off))
	}
}

// TestOpenLimit: P13.1: keys that are put between Open and the first Next are not yielded, be there few or so many that the map grows.
func TestOpenLimit(t *testing.T) {
	eachStage(t, func(w *world, x *pair) {
		for i, more := range []int{1, 2, 9, 40} {
			s := w.open(x, 3, 5)
			old := maps.Clone(x.p.pairs)
			w.fill(x, 70+40*i, more)
			if list := w.through(s); len(list) != len(old) || !maps.Equal(pairsOf(list), old) {
				w.t.Fatalf("P13.1: with %d keys put behind Open %.200q are yielded, want %.200q", more, list, old)
			}
			w.unpinned(x)
		}
	})
}

// TestOpenOrder: P13.1: a walk has the limit of its own Open: of several that were opened between puts each yields what was there then.
func TestOpenOrder(t *testing.T) {
	l := lay(t, descriptors[0])
	w := begin(t, 1<<20, l, ask(t))
	x := w.make(l, 7, 0)
	var walks []*stroll
	for i := range 40 {
		walks = append(walks, w.open(x, uint64(i), uint64(i)))
		w.put(x, 1+i, i)
	}
	for i, s := range walks {
		if list := w.through(s); len(list) != i {
			t.Fatalf("P13.1: a walk over a map of %d keys yields %d", i, len(list))
		}
	}
	w.unpinned(x)
}
