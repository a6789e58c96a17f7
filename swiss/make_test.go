package swiss_test

import (
	"fmt"
	"math"
	"testing"

	"larder/api"
	"larder/arena"
	"larder/swiss"
	"larder/table"
)

// around: the numbers around each power of two and around what a table of so many slots may hold, up to a step past the greatest hint.
func around() []int {
	l := []int{0, 1, 2}
	for n := 4; n <= 8192; n *= 2 {
		for _, k := range []int{n, n / 8 * 7} {
			for by := -1; by <= 1; by++ {
				if k+by <= 4097 {
					l = append(l, k+by)
				}
			}
		}
	}
	return append(l, 4095, 4096, 4097)
}

// TestMakeOfEachHint: the model's bytes, in every layout: which blocks there are, in which order, and what is in them.
func TestMakeOfEachHint(t *testing.T) {
	for i, d := range descriptors {
		l := lay(t, d)
		for _, hint := range around() {
			w := begin(t, 1<<21-1<<15, l, ask(t))
			w.make(l, uint64(i)<<60+7, hint)
		}
	}
}

func TestMakeWithAHintOutOfRange(t *testing.T) {
	l := lay(t, descriptors[0])
	for _, limit := range []int{0, 63, 1 << 16} {
		for _, hint := range append([]int{-1, -8, -9, 4097, 4098, 8192}, far...) {
			w := begin(t, limit, l, ask(t))
			if x := w.make(l, 5, hint); x != nil {
				t.Errorf("P12.1: Make with hint %d is not refused", hint)
			}
			if _, e := swiss.Make(w.a, l, w.o, 5, hint); e != api.ErrHint {
				t.Errorf("P12.1: Make with hint %d, limit %d: error %d, want %d", hint, limit, e, api.ErrHint)
			}
		}
	}
}

// TestShapes: numbers that were worked out by hand: of each cap and hint the slots of each table, and the depth.
func TestShapes(t *testing.T) {
	for _, c := range []struct{ cap, hint, slots, depth int }{
		{16, 9, 16, 0}, {16, 14, 16, 0}, {16, 15, 16, 1}, {16, 28, 16, 1}, {16, 29, 16, 2}, {16, 56, 16, 2}, {16, 57, 16, 3},
		{16, 448, 16, 5}, {16, 449, 16, 6}, {16, 896, 16, 6}, {16, 897, 32, 6}, {16, 3584, 64, 6}, {16, 3585, 128, 6}, {16, 4096, 128, 6},
		{32, 14, 16, 0}, {32, 15, 32, 0}, {32, 28, 32, 0}, {32, 29, 32, 1}, {64, 57, 64, 1}, {64, 4096, 128, 6}, {128, 4096, 128, 6},
		{256, 4096, 256, 5}, {512, 449, 512, 1}, {1024, 896, 1024, 0}, {1024, 897, 1024, 1}, {1024, 4096, 1024, 3},
	} {
		what := fmt.Sprintf("P12.1: cap %d, hint %d", c.cap, c.hint)
		a, l := open(t, api.MaxLimit), lay(t, [5]int{1, 1, 1, 1, c.cap})
		m, e := swiss.Make(a, l, ask(t), 5, c.hint)
		answers(t, what, e, api.OK)
		d, wide, e := m.Dir()
		answers(t, what, e, api.OK)
		n, at := 0, 16+64
		for entry, off := range d.Tables() {
			st, e := table.At(a, l, off).Stat()
			if e != api.OK || st.Slots != c.slots || st.Depth != c.depth || st.Used != 0 || entry != n || off != at || st.Groups != at+64 {
				t.Fatalf("%s: table %d at entry %d, %d: %+v, error %d, want %d slots, depth %d, at %d", what, n, entry, off, st, e, c.slots, c.depth, at)
			}
			at = st.Groups + arena.Class(c.slots/8*l.Group)
			n++
		}
		if !wide || n != 1<<c.depth || d.Depth() != c.depth || d.Off() != at || a.End() != at+arena.Class(8*n) {
			t.Errorf("%s: %d tables, a directory at %d of depth %d, the end is %d", what, n, d.Off(), d.Depth(), a.End())
		}
	}
}

// TestHeaderOfANewMap: byte by byte, with seeds that fill all of their bytes.
func TestHeaderOfANewMap(t *testing.T) {
	for _, seed := range []uint64{0, 1, 0x0102030405060708, 1 << 63, math.MaxUint64} {
		a, l := open(t, 1<<16), lay(t, descriptors[0])
		m, e := swiss.Make(a, l, ask(t), seed, 8)
		answers(t, "P12.1: Make", e, api.OK)
		s, _ := a.Read(16, 64)
		alike(t, "P12.1: the header", s, number(0)+number(int(seed))+numbers(0, 0, 0, -1, 0, 0))
		if m.Off() != 16 || m.Arena() != a || m.Layout() != l || a.Live() != 64 {
			t.Errorf("P12.1: it lies at %d, live %d", m.Off(), a.Live())
		}
	}
}

// TestMakeJustFitsOrNot: limits at which each single block of a making just fits, and a byte below.
func TestMakeJustFitsOrNot(t *testing.T) {
	for _, c := range []struct {
		d    [5]int
		hint int
	}{{descriptors[0], 0}, {descriptors[0], 9}, {descriptors[0], 15}, {descriptors[0], 57}, {descriptors[3], 100}, {descriptors[4], 113}} {
		l := lay(t, c.d)
		w := begin(t, 1<<20, l, ask(t))
		w.make(l, 5, c.hint)
		whole, before := w.g.live, 0
		for _, s := range w.strange {
			before += len(s)
		}
		p := w.maps[0].p
		limit := 0
		for _, off := range append([]int{p.off}, p.below()...) { // in the order of their making
			limit += w.g.size(off)
			for by := -1; by <= 1; by++ {
				w := begin(t, limit+by, l, ask(t))
				x := w.make(l, 5, c.hint)
				if (x != nil) != (limit+by >= whole-before) {
					t.Fatalf("P12.2: Make with hint %d under %d of %d bytes: is it made: %v", c.hint, limit+by, whole-before, x != nil)
				}
				w.givesNext(64, 2*l.Group, 16, 64, 64)
			}
		}
	}
}

// givesNext: what the arena gives next is what the plain heap says.
func (w *world) givesNext(sizes ...int) {
	w.t.Helper()
	for _, n := range sizes {
		offs, ok := w.g.take(n)
		off, e := w.a.Alloc(n)
		if ok != (e == api.OK) || ok && off != offs[0] {
			w.t.Fatalf("P12.2: the arena gives %d for %d bytes, error %d, want %v", off, n, e, offs)
		}
	}
}

// TestMakeRefusedByTheGreatestLimit: a map that no arena has room for.
func TestMakeRefusedByTheGreatestLimit(t *testing.T) {
	l := lay(t, [5]int{128, 128, 8, 8, 1024})
	w := begin(t, 1<<21-1<<15, l, ask(t))
	if x := w.make(l, 0, 4096); x != nil {
		t.Error("P12.2: it is not refused")
	}
	if x := w.make(l, 0, 896); x == nil {
		t.Error("P12.2: a lesser one is refused behind it")
	}
}

func TestAt(t *testing.T) {
	a, l, o := open(t, 1<<12), lay(t, descriptors[0]), ask(t)
	for _, off := range append([]int{0, 16, 17, 80}, far...) {
		m := swiss.At(a, l, o, off)
		if m.Off() != off || m.Arena() != a || m.Layout() != l {
			t.Errorf("At(%d): %d", off, m.Off())
		}
	}
	like(t, "At", a, look(t, open(t, 1<<12)))
	m, e := swiss.Make(a, l, o, 3, 9)
	answers(t, "Make", e, api.OK)
	if m != swiss.At(a, l, o, m.Off()) {
		t.Error("two values for one header are not the same map")
	}
}
