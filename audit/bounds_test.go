package audit_test

import (
	"fmt"
	"math"
	"testing"

	"larder/api"
	"larder/audit"
	"larder/layout"
	"larder/oracle"
)

var fine = api.Finding{}

func told(code, off int) api.Finding { return api.Finding{Code: code, Off: off} }

// value: a number that a word is made, and what is told then.
type value struct {
	v    int
	want api.Finding
}

// turns: the word at off is made each of these.
func (w world) turns(what string, head, off int, values ...value) {
	w.t.Helper()
	for _, v := range values {
		w.asks(fmt.Sprintf("P15.1: %s %d", what, v.v), head, v.want, word(off, v.v))
	}
}

// all: the same is told of each of these.
func all(want api.Finding, vs ...int) []value {
	var l []value
	for _, v := range vs {
		l = append(l, value{v, want})
	}
	return l
}

// TestHeaderBounds: P15.1: the numbers of a bare map's header, at their bounds and beyond.
func TestHeaderBounds(t *testing.T) {
	w := begin(t, chapter)
	h := w.mapOf("").Off()
	w.turns("used", h, h+used, value{math.MinInt, told(3, h)}, value{-1, told(3, h)}, value{0, fine}, value{1, told(3, h+births)}, value{math.MaxInt, told(3, h+births)})
	w.turns("births", h, h+births, append(all(told(3, h+births), math.MinInt, -1, 1<<62+1, math.MaxInt), all(fine, 0, 1, 1<<62-1, 1<<62)...)...)
	w.turns("epoch", h, h+epoch, append(all(told(3, h+epoch), math.MinInt, -1, 1<<62+1, math.MaxInt), all(fine, 0, 1, 1<<62-1, 1<<62)...)...)
	w.turns("the seed", h, h+seed, all(fine, 0, -1, math.MinInt, math.MaxInt)...)
	w.turns("the last word", h, h+zero, append(all(told(3, h+zero), 1, -1, math.MinInt, 1<<40, math.MaxInt), value{0, fine})...)
	w.turns("depth", h, h+depth, append(all(told(4, h+depth), math.MinInt, -2, 7, 8, math.MaxInt), value{-1, fine})...)
	w.turns("depth", h, h+depth, all(told(6, h+root), 0, 1, 2, 3, 4, 5, 6)...)
	w.turns("root", h, h+root, append(all(told(6, h+root), h, h+1, 8, 80, -1, -16, math.MinInt, math.MaxInt), value{0, fine})...)
	w.turns("retired", h, h+retired, append(all(told(6, h+retired), h+1, h+8, 8, 80, -1, -16, math.MinInt, math.MaxInt), value{0, fine}, value{h, told(8, h)})...)
	for used := 1; used <= 5; used++ {
		w.asks("P15.1: a used of which there is nothing", h, told(17, h), word(h, used), word(h+births, used))
	}
	// A directory whose block is the header itself: of depth 3 it has the header's class, and is claimed already.
	for d := range 7 {
		want := told(6, h+root)
		if d == 3 {
			want = told(7, h+root)
		}
		w.asks("P15.1: the header as a directory", h, want, word(h+depth, d), word(h+root, h))
	}
}

// TestHeaderAsRetired: P15.1: a header that names itself as retired: its used is read as a kind.
func TestHeaderAsRetired(t *testing.T) {
	for n, want := range map[int]int{1: 8, 2: 8, 3: 6, 4: 7, 5: 8} {
		w := begin(t, chapter)
		h := w.mapOf("abcde"[:n]).Off()
		place := h + retired
		if want == 8 {
			place = h
		}
		w.asks(fmt.Sprintf("P15.1: the header of %d keys as retired", n), h, told(want, place), word(h+retired, h))
	}
}

// TestLayouts: P15.1: a layout that is not valid is told first, whatever the offset.
func TestLayouts(t *testing.T) {
	w := begin(t, gappy)
	h := w.mapOf("abc").Off()
	for _, off := range []int{h, h + 1, 0, -1, math.MinInt, math.MaxInt} {
		for i := range 9 {
			for _, by := range []int{-1, 1, 1 << 40, math.MinInt} {
				r := w.root(off)
				*[]*int{&r.Layout.Key, &r.Layout.Elem, &r.Layout.KeyAlign, &r.Layout.ElemAlign, &r.Layout.Cap, &r.Layout.ElemOff, &r.Layout.BirthOff, &r.Layout.Slot, &r.Layout.Group}[i] += by
				if layout.Valid(r.Layout) { // one byte less or more of an elem or a key may be another map's layout
					continue
				}
				finds(t, fmt.Sprint("P15.1: Map with ", r), audit.Map(w.a, w.o, r), told(1, off))
				finds(t, fmt.Sprint("P15.1: Check with ", r), w.check(r), told(1, off))
				if l := audit.Pairs(w.a, w.o, r); len(l) != 0 {
					t.Errorf("P15.3: Pairs with %v: %v", r, l)
				}
			}
		}
	}
	for _, off := range []int{0, 8, h - 1, h + 1, h + 8, h + 63, h + 16, -h, math.MinInt, math.MaxInt, w.a.End(), w.a.End() - 16} {
		finds(t, fmt.Sprint("P15.1: a root at ", off), audit.Map(w.a, w.o, w.root(off)), told(6, off))
	}
	finds(t, "P15.1: a root at the small block", audit.Map(w.a, w.o, w.root(h+64)), told(6, h+64))
}

// TestSmallBounds: P15.1: the numbers of a small block.
func TestSmallBounds(t *testing.T) {
	w := begin(t, chapter)
	h := w.mapOf("abc").Off()
	s := w.load(h + root)
	g := s + 32
	w.turns("kind", h, s, append(all(told(8, s), math.MinInt, -1, 0, 2, 3, 4, 257, math.MaxInt), value{1, fine})...)
	w.turns("pins", h, s+pins, append(all(told(9, s+pins), math.MinInt, -1, 1<<62+1, math.MaxInt), all(fine, 0, 1, 2, 1<<62-1, 1<<62)...)...)
	w.turns("next", h, s+next, append(all(told(10, s+next), math.MinInt, -1, 1, s, h, math.MaxInt), value{0, fine})...)
	w.turns("used", h, s+held, append(all(told(17, s+held), math.MinInt, -1, 0, 2, 4, 8, math.MaxInt), value{3, fine})...)
	w.turns("the map's used", h, h, append(all(told(17, h), 0, 1, 2), value{3, fine}, value{4, told(3, h+births)})...)
	w.asks("P15.1: the map's used above", h, told(17, h), word(h, 4), word(h+births, 4))
	for i := range 8 {
		b := g + layout.BirthAt(w.l, i)
		if i >= 3 {
			w.turns("an empty slot's birth", h, b, value{1, told(12, b)}, value{256, told(12, b+1)}, value{math.MinInt, told(12, b+7)})
			continue
		}
		w.turns("a birth", h, b, append(all(told(14, b), math.MinInt, -1, 3, 4, 1<<62, math.MaxInt), value{i, fine})...)
		w.asks("P15.1: the last birth", h, fine, word(b, 9), word(h+births, 10))
		w.asks("P15.1: one beyond it", h, told(14, b), word(b, 10), word(h+births, 10))
	}
	for i := range 8 {
		for c := range 256 {
			want := fine
			switch at := g + layout.KeyAt(w.l, i); {
			case c > 127 && c != 128:
				want = told(11, g+i)
			case i < 3 && c == 128:
				want = told(12, at)
			case i >= 3 && c < 128:
				want = told(13, g+i)
				if c == oracle.Tag(w.o.Hash(7, "\x00")) {
					want = told(16, g+layout.BirthAt(w.l, i)) // a key of zeros, with the birth 0
				}
			case i < 3 && c != i:
				want = told(13, g+i)
			}
			w.asks(fmt.Sprintf("P15.1: slot %d's control byte %d", i, c), h, want, one(g+i, c))
		}
	}
}

// TestTableBounds: P15.1: the numbers of a table, the only one of its map.
func TestTableBounds(t *testing.T) {
	w := begin(t, chapter)
	h := w.mapOf("abcdefghi").Off()
	d := w.load(h + root)
	b := w.load(d)
	g := w.load(b + groups)
	w.asks("P15.5: nine keys", h, fine)
	w.turns("kind", h, b, append(all(told(8, b), math.MinInt, -1, 0, 1, 3, 4, 258, math.MaxInt), value{2, fine})...)
	w.turns("pins", h, b+pins, append(all(told(9, b+pins), math.MinInt, -1, 1<<62+1, math.MaxInt), all(fine, 0, 1, 2, 1<<62)...)...)
	w.turns("next", h, b+next, append(all(told(10, b+next), math.MinInt, -1, 1, b, math.MaxInt), value{0, fine})...)
	w.turns("slots", h, b+slots, all(told(19, b+slots), math.MinInt, -16, -1, 0, 1, 2, 4, 7, 9, 12, 15, 17, 24, 65535, 65537, 131072, 1<<62, math.MaxInt)...)
	w.turns("slots", h, b+slots, append(all(told(6, b+groups), 8, 32, 64, 128, 256, 512, 1024, 2048, 4096, 8192, 16384, 32768, 65536), value{16, fine})...)
	w.turns("depth", h, b+deep, append(all(told(20, b+deep), math.MinInt, -1, 1, 2, 6, 7, 64, math.MaxInt), value{0, fine})...)
	w.turns("groups", h, b+groups, append(all(told(6, b+groups), 0, -1, b, h, d, g+8, g-16, math.MinInt, math.MaxInt), value{g, fine})...)
	w.turns("used", h, b+held, append(all(told(17, b+held), math.MinInt, -1, 0, 8, 10, math.MaxInt), value{9, fine})...)
	w.turns("room", h, b+room, append(all(told(25, b+room), math.MinInt, -5, -1, 0, 4, 6, 14, math.MaxInt), value{5, fine})...)
	w.turns("the entry", h, d, append(all(told(6, d), 0, -1, b+1, g, d, math.MinInt, math.MaxInt), value{b, fine}, value{h, told(7, d)})...)
	for at := d + 8; at < d+16; at++ {
		w.asks("P15.1: a spare byte of the directory", h, told(18, at), one(at, 128))
	}
	for at := g + 2*w.l.Group; at < g+384; at++ {
		w.asks("P15.1: a spare byte of the groups", h, told(18, at), one(at, 1))
		w.asks("P15.1: two of them", h, told(18, at), one(at, 1), one(g+383, 2))
	}
}

// TestRoomBelowZero: P15.1: where more slots are full than may be, the room is what the sum says, though it is below 0: nothing else is asked of it.
func TestRoomBelowZero(t *testing.T) {
	w := begin(t, chapter)
	h := w.bare()
	var keys []string
	for i := range 7 {
		keys = append(keys, letter(w.l, i))
	}
	tb := w.aTable(8, 0, 0, keys...)
	w.hang(h, 8, 8, tb)
	g := groupsOf(t, tb)
	w.lay(w.cell(g, 7, letter(w.l, 7), 7)...)
	w.lay(word(tb.Off()+held, 8))
	w.turns("room", h, tb.Off()+room, append(all(told(25, tb.Off()+room), -2, 0, 1, math.MinInt, math.MaxInt), value{-1, fine})...)
}

// TestRetiredBounds: P15.1: the numbers of retired ones.
func TestRetiredBounds(t *testing.T) {
	w, h, _ := richWide(t)
	early := w.load(h + retired)
	mid := w.load(early + next)
	last := w.load(mid + next)
	for _, r := range []struct{ off, named, kind int }{{early, h + retired, 3}, {mid, early + next, 4}, {last, mid + next, 3}} {
		w.turns("kind", h, r.off, append(all(told(8, r.off), math.MinInt, -1, 0, 1, 2, 5, 259, 260, math.MaxInt), value{r.kind, fine}, value{7 - r.kind, told(6, r.named)})...)
		w.turns("pins", h, r.off+pins, append(all(told(9, r.off+pins), math.MinInt, -1, 0, 1<<62+1, math.MaxInt), all(fine, 1, 2, 1<<62)...)...)
		for _, x := range []int{early, mid, last} {
			want := told(7, r.off+next)
			switch {
			case x == w.load(r.off+next):
				want = fine
			case r.off == early && x == last:
				want = told(26, mid)
			}
			finds(t, fmt.Sprintf("P15.1: of the retired one at %d the next is %d", r.off, x), w.with(func() api.Finding { return w.check(w.root(h)) }, word(r.off+next, x)), want)
		}
		w.turns("next", h, r.off+next, all(told(6, r.off+next), -1, 1, r.off+1, math.MinInt, math.MaxInt)...)
	}
	w.turns("a retired table's slots", h, mid+slots, append(all(told(19, mid+slots), -16, 0, 4, 15, 17, 131072, math.MinInt, math.MaxInt), value{16, fine}, value{8, told(6, mid+groups)}, value{65536, told(6, mid+groups)})...)
	w.turns("a retired table's depth", h, mid+deep, append(all(told(20, mid+deep), -1, 7, 8, math.MinInt, math.MaxInt), all(fine, 0, 1, 2, 3, 4, 5, 6)...)...)
	w.turns("a retired table's used", h, mid+held, append(all(told(17, mid+held), -1, 0, 7, 9, math.MaxInt), value{8, fine})...)
	w.turns("a retired table's room", h, mid+room, append(all(told(25, mid+room), -1, 0, 4, 6, math.MaxInt), value{5, fine})...)
	w.turns("a retired small block's used", h, last+held, append(all(told(17, last+held), -1, 0, 4, 6, math.MaxInt), value{5, fine})...)
}
