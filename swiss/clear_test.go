package swiss_test

import (
	"math"
	"testing"

	"larder/api"
)

// stage: a map of some state, in a world of its own.
type stage struct {
	name string
	set  func(w *world, l api.Layout) *pair
}

// stages: a bare, a small and a wide map, with keys and without, with pins and retired ones.
var stages = []stage{
	{"a bare map", func(w *world, l api.Layout) *pair { return w.make(l, 7, 0) }},
	{"a small map", func(w *world, l api.Layout) *pair {
		x := w.make(l, 7, 8)
		w.fill(x, 1, 5)
		w.delete(x, 2)
		return x
	}},
	{"a full small map", func(w *world, l api.Layout) *pair {
		x := w.make(l, 7, 0)
		w.fill(x, 1, 8)
		return x
	}},
	{"a small map without keys, with pins", func(w *world, l api.Layout) *pair {
		x := w.make(l, 7, 0)
		w.put(x, 1, 1)
		w.delete(x, 1)
		w.pin(x, x.p.block.off)
		w.pin(x, x.p.block.off)
		return x
	}},
	{"a wide map of one table", func(w *world, l api.Layout) *pair {
		x := w.make(l, 7, 0)
		w.fill(x, 1, 10)
		return x
	}},
	{"a wide map without keys", func(w *world, l api.Layout) *pair { return w.make(l, 7, 40) }},
	{"a wide map of several tables", func(w *world, l api.Layout) *pair {
		x := w.make(l, 7, 0)
		w.fill(x, 1, 40)
		return x
	}},
	{"a wide map with retired ones and pins", func(w *world, l api.Layout) *pair {
		x := w.make(l, 7, 0)
		for i := range 50 {
			w.put(x, 1+i, i)
			for _, p := range x.p.current() {
				if p.pins == 0 && (i+p.off/16)%3 > 0 {
					w.pin(x, p.off)
				}
			}
			w.delete(x, 1+i/2*2)
		}
		return x
	}},
}

// staged: each stage with each layout and half of the kinds of hashes in turn, another map beside it.
func staged(t *testing.T, each func(w *world, x *pair, name string)) {
	t.Helper()
	t.Parallel()
	for i, d := range descriptors[:5] {
		for j, k := range kinds {
			if (i+j)%2 > 0 {
				continue
			}
			for _, s := range stages {
				l := lay(t, d)
				w := begin(t, 1<<19, l, ask(t, k.over(d[0])...))
				other := w.make(l, 99, 0)
				w.fill(other, 1, 4+2*i)
				each(w, s.set(w, l), s.name+", "+k.name)
			}
		}
	}
}

func TestClear(t *testing.T) {
	staged(t, func(w *world, x *pair, name string) {
		end := w.a.End()
		for _, seed := range []uint64{9, math.MaxUint64, 0} {
			births, epoch := x.p.births, x.p.epoch
			w.clear(x, seed)
			if st, e := x.m.Stat(); st != (api.MapStat{Seed: seed, Births: births, Epoch: epoch + 1, Depth: -1}) || e != api.OK {
				t.Fatalf("P12.3: Clear of %s: %+v, error %d", name, st, e)
			}
			if w.a.End() != end {
				t.Fatalf("P12.3: Clear of %s takes a block", name)
			}
		}
	})
}

// TestClearAndGoOn: a cleared map is filled again, with its new seed and with births that go on.
func TestClearAndGoOn(t *testing.T) {
	staged(t, func(w *world, x *pair, name string) {
		w.clear(x, 1234)
		births := x.p.births
		w.fill(x, 3, 20)
		c, _ := x.m.Cell(text(x.p.l.Key, 3))
		d, _ := x.m.Cell(text(x.p.l.Key, 22))
		if c.Birth != births || d.Birth != births+19 {
			t.Fatalf("P12.3: %s: the births go on with %d and %d, want %d and %d", name, c.Birth, d.Birth, births, births+19)
		}
	})
}

// TestClearWithoutMemory: the limit is reached; nothing is taken, so nothing can be refused.
func TestClearWithoutMemory(t *testing.T) {
	l := lay(t, descriptors[0])
	w := begin(t, 64+192, l, ask(t))
	x := w.make(l, 7, 0)
	w.fill(x, 1, 9)
	if w.a.Live() != w.a.Limit() || len(x.p.pairs) != 8 {
		t.Fatal("there is memory left")
	}
	w.clear(x, 8)
	w.put(x, 1, 1)
}

func TestRelease(t *testing.T) {
	staged(t, func(w *world, x *pair, name string) {
		w.release(x)
		answers(t, "P12.4: Release again, "+name, x.m.Release(), api.ErrDead)
		w.release(w.maps[0])
		sum := 0
		for _, s := range w.strange {
			sum += len(s)
		}
		if w.a.Live() != sum {
			t.Fatalf("P12.4: %s: behind the release of all maps %d bytes are live, want %d", name, w.a.Live(), sum)
		}
	})
}

// TestAnotherMapInTheBlocksOfOne: it begins anew, though all its blocks were used once.
func TestAnotherMapInTheBlocksOfOne(t *testing.T) {
	staged(t, func(w *world, x *pair, name string) {
		off := x.p.off
		w.release(x)
		y := w.make(x.p.l, 31, 0)
		if y.p.off != off || y.m != x.m {
			t.Fatalf("W4: %s: the new map lies at %d, want %d", name, y.p.off, off)
		}
		w.fill(y, 1, 12)
	})
}
