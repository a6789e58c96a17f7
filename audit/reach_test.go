package audit_test

import (
	"fmt"
	"testing"

	"larder/api"
	"larder/layout"
	"larder/probe"
	"larder/table"
)

// homeOver: overrides for 64 keys of one byte, all with that home, and the tags 0 to 63.
func homeOver(home uint64) []api.Over {
	var over []api.Over
	for i := range 64 {
		over = append(over, api.Over{Key: topKey(i), Hash: home<<7 | uint64(i)})
	}
	return over
}

// TestReach: P15.1: 24: a table of eight groups, of which six are full on one way, and a last key lies in the seventh. One slot of each of the six is made empty, or deleted.
func TestReach(t *testing.T) {
	for home := range uint64(8) {
		w := beginWith(t, chapter, homeOver(home)...)
		h := w.bare()
		var keys []string
		for i := range 49 {
			keys = append(keys, topKey(i))
		}
		tb := w.aTable(64, 0, 0, keys...)
		w.hang(h, 49, 49, tb)
		g := groupsOf(t, tb)
		w.asks("P15.1: a long way", h, fine)
		for step := range 8 {
			at := g + probe.At(home, 8, step)*w.l.Group
			lone := step >= 6 // the groups that have empty slots already
			for i := range 8 {
				what := fmt.Sprintf("home %d, step %d, slot %d", home, step, i)
				if step == 6 && i == 0 { // the last key's own
					continue
				}
				w.agreesWith(what+" empty", h, w.vacant(at, i, 128)...)
				w.agreesWith(what+" deleted", h, w.vacant(at, i, 254)...)
				if lone {
					continue
				}
				// The first key in the order of slots that lies behind that group on the way.
				want := fine
				for group := range 8 {
					if s := probe.Steps(home, 8, group); s > step && s <= 6 {
						want = told(24, g+group*w.l.Group+layout.KeyAt(w.l, 0))
						break
					}
				}
				w.asks("P15.1: "+what+" empty", h, want, w.vacant(at, i, 128)...)
				marks := append(w.vacant(at, i, 254), word(tb.Off()+held, 48), word(h, 48))
				w.asks("P15.1: "+what+" deleted", h, fine, marks...)
			}
		}
	}
}

// TestEverySize: P15.5: tables of every number of slots that a block can hold, current and retired.
func TestEverySize(t *testing.T) {
	for s := 8; s <= 32768; s *= 2 {
		w := beginWith(t, []int{2, 0, 1, 1, 16})
		h := w.bare()
		keys := twoByteKeys(min(s*7/8, 2000))
		tb := w.aTable(s, 0, 0, keys...)
		w.hang(h, len(keys), len(keys), tb)
		if s < 32768 { // two of the greatest are above the limit
			old := w.aTable(s, 0, 0, keys...)
			retire(t, 0, old)
			w.lay(word(h+retired, old.Off()))
		}
		w.asks(fmt.Sprintf("P15.5: %d slots", s), h, fine)
		last := keys[len(keys)-1]
		slot, e := tb.Find(w.o.Hash(7, last), last)
		answers(t, "Find", e, api.OK)
		at := groupsOf(t, tb) + slot/8*w.l.Group
		w.asks(fmt.Sprintf("P15.1: %d slots, the last key's tag", s), h, told(13, at+slot%8), one(at+slot%8, int(w.o.Hash(7, last)%128)^64))
	}
}

// twoByteKeys: so many keys of two bytes.
func twoByteKeys(n int) []string {
	var keys []string
	for i := range n {
		keys = append(keys, string([]byte{byte(i), byte(i >> 8)}))
	}
	return keys
}

// TestTopOfFirst: P15.1: 23: of a retired table the first full cell tells the top bits, whichever slot it lies in, and however deep the table is.
func TestTopOfFirst(t *testing.T) {
	for d := range 7 {
		for first := range 8 {
			w := beginWith(t, chapter, topOver()...)
			h := w.bare()
			tb := w.aTable(8, d, 0)
			retire(t, 0, tb)
			w.lay(word(h+retired, tb.Off()), word(h+births, 64))
			g := groupsOf(t, tb)
			for second := first + 1; second < 8; second++ {
				for _, k := range []int{0, 1, 2, 4, 8, 16, 32, 63} {
					for _, start := range []int{0, 21, 63} {
						if k == start {
							continue
						}
						pokes := append(w.cell(g, first, topKey(start), 3), w.cell(g, second, topKey(k), 4)...)
						pokes = append(pokes, word(tb.Off()+held, 2), word(tb.Off()+room, 5))
						want := fine
						if k>>(6-d) != start>>(6-d) {
							want = told(23, g+layout.KeyAt(w.l, second))
						}
						w.asks(fmt.Sprintf("P15.1: depth %d, keys %d and %d", d, start, k), h, want, pokes...)
					}
				}
			}
		}
	}
}

// TestTopFromTable: P15.1: 23: a current table's top bits are those of its entries, though all its cells have others; a retired one's are not asked of its entries, though it had some.
func TestTopFromTable(t *testing.T) {
	w := beginWith(t, chapter, topOver()...)
	h := w.bare()
	a, b := w.aTable(8, 1, 0, topKey(40), topKey(41)), w.aTable(8, 1, 2, topKey(42))
	w.hang(h, 3, 3, a, b)
	w.asks("P15.1: a table at the wrong entries", h, told(23, groupsOf(t, a)+layout.KeyAt(w.l, 0)))
	for _, x := range []table.Table{a, b} {
		retire(t, 0, x)
	}
	w.lay(word(a.Off()+next, b.Off()), word(h+retired, a.Off()), word(h, 0), word(h+depth, -1))
	dir := w.load(h + root)
	w.lay(word(h+root, 0))
	answers(t, "Free", w.a.Free(dir), api.OK)
	w.asks("P15.1: the same ones, retired", h, fine)
}

// TestOwnCollections: P15.1: 15 and 16: over all current cells of a map; of each retired one its own alone.
func TestOwnCollections(t *testing.T) {
	w := beginWith(t, chapter, topOver()...)
	h := w.bare()
	a, b := w.aTable(8, 1, 0, topKey(0), topKey(1)), w.aTable(8, 1, 2, topKey(32), topKey(33))
	w.hang(h, 4, 4, a, b)
	ga, gb := groupsOf(t, a), groupsOf(t, b)
	birthB := gb + layout.BirthAt(w.l, 1)
	w.asks("P15.1: a birth that another table has", h, told(16, birthB), word(birthB, 0))
	w.asks("P15.1: a key that another table has", h, told(15, gb+layout.KeyAt(w.l, 1)), w.cell(gb, 1, topKey(1), 3)...)
	w.asks("P15.1: a key that the table has", h, told(15, ga+layout.KeyAt(w.l, 5)), w.cell(ga, 5, topKey(1), 3)...)
	// Retired ones hold the same keys and births as the current ones and as each other.
	last := 0
	for i := range 3 {
		r := w.aTable(8, 1, 0, topKey(0), topKey(1))
		retire(t, last, r)
		s := w.aSmall(0, topKey(0), topKey(32), topKey(33))
		retire(t, r.Off(), s)
		last = s.Off()
		w.lay(word(h+retired, last))
		w.asks(fmt.Sprintf("P15.1: %d retired ones", 2*i+2), h, fine)
		gs, gr := s.Off()+32, groupsOf(t, r)
		w.asks("P15.1: a key twice in a retired small block", h, told(15, gs+layout.KeyAt(w.l, 7)), w.cell(gs, 7, topKey(0), 3)...)
		w.asks("P15.1: a birth twice in a retired small block", h, told(16, gs+layout.BirthAt(w.l, 7)), w.cell(gs, 7, topKey(9), 2)...)
		w.asks("P15.1: a key twice in a retired table", h, told(15, gr+layout.KeyAt(w.l, 7)), w.cell(gr, 7, topKey(0), 3)...)
		w.asks("P15.1: a birth twice in a retired table", h, told(16, gr+layout.BirthAt(w.l, 7)), w.cell(gr, 7, topKey(9), 1)...)
		w.asks("P15.1: a birth of the future in a retired table", h, told(14, gr+layout.BirthAt(w.l, 7)), w.cell(gr, 7, topKey(9), 4)...)
	}
}
