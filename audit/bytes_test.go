package audit_test

import (
	"fmt"
	"slices"
	"testing"

	"larder/api"
	"larder/layout"
	"larder/swiss"
)

// spoken: the offsets of all bytes of a map of which P15.6 speaks.
func (w world) spoken(m swiss.Map) []int {
	w.t.Helper()
	h := m.Off()
	offs := w.span(h, 0, 64, seed, births, epoch)
	if s, is, _ := m.Small(); is {
		offs = append(offs, w.small(s.Off())...)
	}
	if d, is, _ := m.Dir(); is {
		size, _ := w.a.Size(d.Off())
		offs = append(offs, w.span(d.Off(), 0, size)...)
		for _, off := range d.Tables() {
			offs = append(offs, w.table(off, pins)...)
		}
	}
	list, _ := m.Retired()
	for _, off := range list {
		if w.load(off) == api.KindSmallRetired {
			offs = append(offs, w.small(off)...)
		} else {
			offs = append(offs, w.table(off, pins, deep)...)
		}
	}
	return offs
}

// span: the bytes from .. to of the block at off, but for those words.
func (w world) span(off, from, to int, but ...int) []int {
	var offs []int
	for at := from; at < to; at++ {
		if !slices.Contains(but, at&^7) {
			offs = append(offs, off+at)
		}
	}
	return offs
}

func (w world) small(off int) []int {
	size, _ := w.a.Size(off)
	return slices.Concat(w.span(off, 0, 32, pins), w.group(off+32), w.span(off, 32+w.l.Group, size))
}

func (w world) table(off int, but ...int) []int {
	offs := w.span(off, 0, 64, but...)
	g, n := w.load(off+groups), w.load(off+slots)/8
	size, _ := w.a.Size(g)
	for i := range n {
		offs = append(offs, w.group(g+i*w.l.Group)...)
	}
	return append(offs, w.span(g, n*w.l.Group, size)...)
}

// group: its control word, its vacant slots, and its full slots' gaps.
func (w world) group(g int) []int {
	offs := w.span(g, 0, 8)
	for i := range 8 {
		at := layout.KeyAt(w.l, i)
		if c, _ := w.a.Load(g+i, 1); c > 127 {
			offs = append(offs, w.span(g, at, at+w.l.Slot)...)
			continue
		}
		offs = append(offs, w.span(g, at+w.l.Key, at+w.l.ElemOff)...)
		offs = append(offs, w.span(g, at+w.l.ElemOff+w.l.Elem, at+w.l.BirthOff)...)
	}
	return offs
}

// shape: maps that are made for a test.
type shape struct {
	name    string
	fields  []int
	retired int // of the first one
	make    func(w world) []swiss.Map
}

// pinned: a walk stands on all that the map has.
func (w world) pinned(m swiss.Map) {
	w.t.Helper()
	g := gang{t: w.t, a: w.a, o: w.o}
	for _, off := range g.places(&member{m: m}) {
		answers(w.t, "Pin", m.Pin(off), api.OK)
	}
}

func (w world) delete(m swiss.Map, letters string) {
	w.t.Helper()
	for _, k := range letters {
		_, e := m.Delete(wide(string(k), w.l.Key))
		answers(w.t, "Delete", e, api.OK)
	}
}

var shapes = []shape{
	{"bare", chapter, 0, func(w world) []swiss.Map { return []swiss.Map{w.mapOf("")} }},
	{"cleared", chapter, 0, func(w world) []swiss.Map {
		m := w.mapOf("abcdefghijk")
		m.Clear(7)
		return []swiss.Map{m}
	}},
	{"small", gappy, 0, func(w world) []swiss.Map { return []swiss.Map{w.mapOf("abcd")} }},
	{"small, with a key of zeros", chapter, 0, func(w world) []swiss.Map { return []swiss.Map{w.mapOf("\x00ab")} }},
	{"small and full", gappy, 0, func(w world) []swiss.Map { return []swiss.Map{w.mapOf("abcdefgh")} }},
	{"small, without keys", chapter, 0, func(w world) []swiss.Map {
		m := w.mapOf("abc")
		w.delete(m, "bac")
		return []swiss.Map{m}
	}},
	{"wide, with deleted slots", chapter, 0, func(w world) []swiss.Map {
		m := w.mapOf("abcdefghijkl")
		w.delete(m, "bdl")
		return []swiss.Map{m}
	}},
	{"wide, with gaps", gappy, 0, func(w world) []swiss.Map { return []swiss.Map{w.mapOf("abcdefghi")} }},
	{"without keys, of depth 1", chapter, 0, func(w world) []swiss.Map {
		m, e := swiss.Make(w.a, w.l, w.o, 7, 15)
		answers(w.t, "Make", e, api.OK)
		return []swiss.Map{m}
	}},
	{"a retired small block", chapter, 1, func(w world) []swiss.Map {
		m := w.mapOf("abcdefgh")
		w.pinned(m)
		w.put(m, "i")
		return []swiss.Map{m}
	}},
	{"a retired table", chapter, 1, func(w world) []swiss.Map {
		m := w.mapOf("abcdefghi")
		w.pinned(m)
		w.put(m, "ABCDEFGH")
		return []swiss.Map{m}
	}},
	{"two retired ones", []int{1, 0, 1, 1, 16}, 2, func(w world) []swiss.Map {
		m := w.mapOf("aABCDEFG")
		w.pinned(m)
		w.put(m, "HIJ")
		w.pinned(m)
		w.put(m, "KLMNOP")
		return []swiss.Map{m}
	}},
	{"two maps", chapter, 0, func(w world) []swiss.Map { return []swiss.Map{w.mapOf("abc"), w.mapOf("abc")} }},
}

// TestEachByte: P15.6: each byte of which it speaks, made every other value: Check finds something. (What, the plain rules say.)
func TestEachByte(t *testing.T) {
	for _, s := range shapes {
		t.Run(s.name, func(t *testing.T) {
			t.Parallel()
			w := begin(t, s.fields)
			var roots []api.Root
			var offs []int
			for i, m := range s.make(w) {
				if list, _ := m.Retired(); i == 0 && len(list) != s.retired {
					t.Fatalf("%d retired ones", len(list))
				}
				roots = append(roots, w.root(m.Off()))
				offs = append(offs, w.spoken(m)...)
			}
			finds(t, "P15.5: as it is", w.check(roots...), fine)
			for n, off := range offs {
				v, e := w.a.Load(off, 1)
				answers(t, "Load", e, api.OK)
				for by := 1; by < 256; by++ {
					w.a.Store(off, 1, v^uint64(by))
					f := w.check(roots...)
					if f.Code == 0 {
						t.Fatalf("P15.6: the byte at %d is %d, was %d: nothing is found", off, v^uint64(by), v)
					}
					if by&(by-1) == 0 && (n+by)%5 == 0 {
						finds(t, fmt.Sprintf("P15.1: the byte at %d is %d, was %d", off, v^uint64(by), v), f, plainCheck(w.a, w.o, roots...))
					}
				}
				w.a.Store(off, 1, v)
			}
			finds(t, "P15.5: as it was", w.check(roots...), fine)
		})
	}
}

// TestOtherBytes: P15.6 speaks of no others because nothing need be found there: an elem's, a seed's without keys, pins, an epoch.
func TestOtherBytes(t *testing.T) {
	w := begin(t, chapter)
	m := w.mapOf("abc")
	h := m.Off()
	s := w.load(h + root)
	for v := range 256 {
		w.asks("P15.1: an elem", h, fine, one(s+32+layout.ElemAt(w.l, 1), v))
		w.asks("P15.1: an epoch", h, fine, one(h+epoch, v))
		w.asks("P15.1: pins", h, fine, one(s+pins, v))
	}
	for v := 3; v < 256; v++ {
		w.asks("P15.1: births", h, fine, one(h+births, v))
	}
	w.asks("P15.5: as it was", h, fine)
}
