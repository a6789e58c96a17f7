package swiss_test

import (
	"math/rand"
	"testing"

	"larder/api"
	"larder/swiss"
)

// TestOtherHands: words of a map's blocks are written over with any numbers, those of offsets and counts among them. Of what the calls answer then nothing is said; but each ends, and none panics.
func TestOtherHands(t *testing.T) {
	r := rand.New(rand.NewSource(12))
	for range 1500 {
		for _, s := range []stage{stages[2], stages[4], stages[len(stages)-1]} {
			l := lay(t, descriptors[0])
			w := begin(t, 1<<14, l, ask(t, kinds[r.Intn(len(kinds))].over(1)...))
			w.quiet = true
			x := s.set(w, l)
			spoil(r, x, w)
			for range 12 {
				y := args{key: text(1, r.Intn(60)), elem: text(1, 1), off: r.Intn(400) * 16, seed: r.Uint64()}
				calls[r.Intn(len(calls))].do(x.m, y)
				n := 0
				for range x.m.All() {
					n++
				}
			}
			x.m.Put("q", "q")
			x.m.Clone()
			x.m.Clear(1)
			x.m.Release()
		}
	}
}

// spoil: some words of the map's blocks have other numbers: great ones, small ones, offsets of its own blocks.
func spoil(r *rand.Rand, x *pair, w *world) {
	offs := append(x.p.below(), x.p.off, x.p.off)
	for range 1 + r.Intn(3) {
		off := offs[r.Intn(len(offs))]
		word := r.Intn(8)
		v := []uint64{0, 1, 2, 3, 4, 5, 7, 16, 32, 1 << 63, 1<<64 - 1, r.Uint64(), uint64(offs[r.Intn(len(offs))]), uint64(offs[r.Intn(len(offs))])}[r.Intn(14)]
		w.a.Store(off+8*word, 8, v)
	}
}

// TestARingOfRetiredOnes: it is gone through once.
func TestARingOfRetiredOnes(t *testing.T) {
	w, x := rowOf(t, 3)
	first, last := x.p.retired[0].off, x.p.retired[2].off
	w.a.Store(last+16, 8, uint64(first))
	if l, e := x.m.Retired(); len(l) != 3 || e != api.OK {
		t.Errorf("Retired of a ring of three is %v, error %d", l, e)
	}
	for _, m := range []swiss.Map{x.m, swiss.At(w.a, x.p.l, w.o, x.p.off)} {
		answers(t, "Pin", m.Pin(last), api.OK)
		answers(t, "Pin", m.Pin(5), api.ErrBlock)
	}
	answers(t, "Release", x.m.Release(), api.OK)
}
