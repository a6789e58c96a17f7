package swiss_test

import (
	"testing"

	"larder/api"
	"larder/dir"
	"larder/small"
	"larder/table"
)

// TestFindInEachStage: all keys that were ever put, those that never were, and no byte changes.
func TestFindInEachStage(t *testing.T) {
	staged(t, func(w *world, x *pair, name string) {
		for key := range 70 {
			w.finds(name, x, text(x.p.l.Key, key))
		}
		w.tells(name, x)
		w.holds("P12.6, P12.7: " + name)
	})
}

// TestWrongWidths: of each call that takes a key or an elem; a wrong key is told ahead of a wrong elem.
func TestWrongWidths(t *testing.T) {
	staged(t, func(w *world, x *pair, name string) {
		elem := text(x.p.l.Elem, 1)
		for _, key := range widths(x.p.l.Key) {
			for _, call := range []string{"Cell", "Get", "Probes", "Delete"} {
				w.refuses(x, call, args{key: key}, api.ErrKeyWidth)
			}
			w.refuses(x, "Put", args{key: key, elem: elem}, api.ErrKeyWidth)
			for _, wrong := range widths(x.p.l.Elem) {
				w.refuses(x, "Put", args{key: key, elem: wrong}, api.ErrKeyWidth)
			}
		}
		for _, key := range []int{1, 2, 60} { // those that are there, too
			for _, wrong := range widths(x.p.l.Elem) {
				w.refuses(x, "Put", args{key: text(x.p.l.Key, key), elem: wrong}, api.ErrElemWidth)
			}
		}
	})
}

// TestElemsOfNoBytes: a key that is there has the elem "" and true.
func TestElemsOfNoBytes(t *testing.T) {
	l := lay(t, descriptors[1])
	w := begin(t, 1<<16, l, ask(t))
	x := w.make(l, 1, 0)
	for n := range 12 {
		w.put(x, n, 0)
		if s, yes, e := x.m.Get(text(1, n)); s != "" || !yes || e != api.OK {
			t.Fatalf("P12.6: %q, %v, error %d", s, yes, e)
		}
		if s, yes, e := x.m.Get(text(1, n+1)); s != "" || yes || e != api.OK {
			t.Fatalf("P12.6: a key that isn't there: %q, %v, error %d", s, yes, e)
		}
	}
}

// TestSlotsOfSharedEntries: one table at many entries counts once; retired ones don't count.
func TestSlotsOfSharedEntries(t *testing.T) {
	l := lay(t, descriptors[0])
	var over []api.Over
	for i := range 60 { // most keys have the top bits 0, one all of them
		over = append(over, api.Over{Key: text(1, i), Hash: uint64(i)})
	}
	over[3].Hash |= 63 << 58
	w := begin(t, 1<<16, l, ask(t, over...))
	x := w.make(l, 1, 0)
	w.fill(x, 0, 9)
	w.pin(x, x.p.entries[0].off)
	w.fill(x, 9, 8)
	d, _, e := x.m.Dir()
	answers(t, "P12.7: Dir", e, api.OK)
	high, e := d.Entry(63)
	answers(t, "Entry", e, api.OK)
	run := 0
	for i := range 64 {
		if off, _ := d.Entry(i); off == high {
			run++
		}
	}
	n, e := x.m.Slots()
	if d.Depth() != 6 || run != 32 || n != 128 || e != api.OK {
		t.Errorf("P12.7: depth %d, %d entries of the last table, %d slots, error %d", d.Depth(), run, n, e)
	}
	if l, e := x.m.Retired(); len(l) != 1 || e != api.OK {
		t.Errorf("P12.7: Retired is %v, error %d", l, e)
	}
}

// TestPartsAreThose: what Small and Dir answer is that place: its calls answer what the map's do.
func TestPartsAreThose(t *testing.T) {
	l := lay(t, descriptors[3])
	w := begin(t, 1<<16, l, ask(t))
	x := w.make(l, 1, 0)
	w.put(x, 4, 4)
	s, yes, e := x.m.Small()
	answers(t, "P12.7: Small", e, api.OK)
	if st, e := s.Stat(); !yes || st.Used != 1 || e != api.OK || s == (small.Small{}) {
		t.Errorf("P12.7: the small block: %+v, error %d", st, e)
	}
	w.fill(x, 5, 10)
	d, yes, e := x.m.Dir()
	answers(t, "P12.7: Dir", e, api.OK)
	h := x.p.of(text(5, 4))
	_, off, _ := d.Pick(h)
	if c, e := table.At(w.a, l, off).Get(h, text(5, 4)); !yes || c.Elem != text(4, 4) || e != api.OK || d == (dir.Dir{}) {
		t.Errorf("P12.7: by the directory: %+v, error %d", c, e)
	}
}

// TestRetiredIsANewList: what is written into one answer is not seen in the next.
func TestRetiredIsANewList(t *testing.T) {
	l := lay(t, descriptors[0])
	w := begin(t, 1<<16, l, ask(t, kinds[0].over(1)...))
	x := w.make(l, 1, 0)
	w.fill(x, 1, 8)
	w.pin(x, x.p.block.off)
	w.fill(x, 9, 1)
	w.pin(x, x.p.entries[0].off)
	w.fill(x, 10, 6)
	list, e := x.m.Retired()
	if len(list) != 2 || e != api.OK {
		t.Fatalf("P12.7: Retired is %v, error %d", list, e)
	}
	for i := range list[:cap(list)] {
		list[:cap(list)][i] = 0
	}
	w.holds("P12.7: a list that was written over", x)
}
