package audit_test

import (
	"fmt"
	"testing"

	"larder/api"
	"larder/layout"
	"larder/oracle"
	"larder/small"
	"larder/table"
)

// broken: a rule that is broken by pokes, and what is told of it.
type broken struct {
	what  string
	pokes []poke
	want  api.Finding
}

func breaks(what string, code, off int, pokes ...poke) broken {
	return broken{what, pokes, api.Finding{Code: code, Off: off}}
}

// overlap: do two of them lay the same byte?
func overlap(x, y broken) bool {
	for _, p := range x.pokes {
		for _, q := range y.pokes {
			if p.off < q.off+len(q.bytes) && q.off < p.off+len(p.bytes) {
				return true
			}
		}
	}
	return false
}

// Keys of the rich maps: number i of those whose hash has those two top bits, the home 0, and the tag i modulo 4.
func richKey(top, i int) string { return fmt.Sprintf("%d-%02d\xff", top, i) }

func richOver() []api.Over {
	var over []api.Over
	for top := range 4 {
		for i := range 12 {
			over = append(over, api.Over{Key: richKey(top, i), Hash: uint64(top)<<62 | uint64(i%4)})
		}
	}
	return over
}

func richKeys(top, n int) []string {
	var keys []string
	for i := range n {
		keys = append(keys, richKey(top, i))
	}
	return keys
}

// richTable: 16 slots: group 0 has the keys 0 to 7, but 3 is deleted; key 8 lies in slot 8, in group 1: its way leads over group 0.
func (w world) richTable(depth, top, from int) table.Table {
	w.t.Helper()
	tb := w.aTable(16, depth, from, richKeys(top, 9)...)
	k := richKey(top, 3)
	if was, e := tb.Delete(w.o.Hash(7, k), k); !was || e != api.OK {
		w.t.Fatalf("Delete: %v, error %d", was, e)
	}
	return tb
}

// headerRules: those of a header, in the chapter's order.
func headerRules(off int) []broken {
	return []broken{
		breaks("used below 0", 3, off+used, word(off+used, -1)),
		breaks("births below used", 3, off+births, word(off+births, 1)),
		breaks("births below 0", 3, off+births, word(off+births, -1<<63)),
		breaks("births too great", 3, off+births, word(off+births, 1<<62+1)),
		breaks("epoch below 0", 3, off+epoch, word(off+epoch, -1)),
		breaks("epoch too great", 3, off+epoch, word(off+epoch, 1<<62+1)),
		breaks("the last word", 3, off+zero, one(off+zero+7, 1)),
		breaks("depth 7", 4, off+depth, word(off+depth, 7)),
		breaks("depth -2", 4, off+depth, word(off+depth, -2)),
	}
}

// slotRules: those of the full slot i of the group at g, in the chapter's order. Of another cell, which lies ahead of it, the key (its tag is the slot's own) and the birth are given.
func (w world) slotRules(g, i int, key string, birth int) []broken {
	k, e, b := g+layout.KeyAt(w.l, i), g+layout.ElemAt(w.l, i), g+layout.BirthAt(w.l, i)
	was, _ := w.a.Load(g+i, 1)
	return []broken{
		breaks("a tag", 13, g+i, one(g+i, int(was)^1)),
		breaks("the first gap", 12, k+w.l.Key, one(k+w.l.Key, 1)),
		breaks("the first gap's end", 12, e-1, one(e-1, 255)),
		breaks("the second gap", 12, e+w.l.Elem, one(e+w.l.Elem, 1)),
		breaks("the second gap's end", 12, b-1, one(b-1, 128)),
		breaks("a birth below 0", 14, b, word(b, -1)),
		breaks("a birth of the future", 14, b, word(b, 100)),
		breaks("a key twice", 15, k, poke{k, key}),
		breaks("a birth twice", 16, b, word(b, birth)),
	}
}

// tableRules: those of a rich table, from its groups' block on.
func (w world) tableRules(t table.Table, twin string, stranger string) []broken {
	w.t.Helper()
	off, g := t.Off(), groupsOf(w.t, t)
	h := g + w.l.Group
	key8, key9, key3 := h+layout.KeyAt(w.l, 0), h+layout.KeyAt(w.l, 1), g+layout.KeyAt(w.l, 3)
	first := w.load(g + layout.BirthAt(w.l, 0))
	l := []broken{breaks("no groups", 6, off+groups, word(off+groups, 17))}
	l = append(l, breaks("a deleted slot's byte", 12, key3, one(key3, 1)))
	l = append(l, w.slotRules(h, 0, twin, first)...)
	return append(l,
		breaks("another table's key", 23, key8, poke{key8, stranger}),
		breaks("an empty slot on the way", 24, key8, one(g+3, 128)),
		breaks("an empty slot's byte", 12, key9+w.l.Slot-1, one(key9+w.l.Slot-1, 1)),
		breaks("an odd control byte", 11, h+2, one(h+2, 129)),
		breaks("a mixed group", 22, h, one(h+3, 254)),
		breaks("a table's used", 17, off+held, word(off+held, 9)),
		breaks("its room", 25, off+room, word(off+room, 6)),
		breaks("a spare byte", 18, g+2*w.l.Group, one(g+2*w.l.Group, 1)),
		breaks("the last spare byte", 18, g+511, one(g+511, 1)),
	)
}

// currentRules: those of the table that the entries from first on name, up to its groups.
func currentRules(t table.Table, head, dir, first int) []broken {
	off := t.Off()
	return []broken{
		breaks("an entry without a block", 6, first, word(first, 17)),
		breaks("an entry with the directory: its class ahead of its claim", 6, first, word(first, dir)),
		breaks("an entry with the header", 7, first, word(first, head)),
		breaks("a table's kind", 8, off, word(off, 1)),
		breaks("a table's kind: retired", 8, off, word(off, 4)),
		breaks("pins below 0", 9, off+pins, word(off+pins, -1)),
		breaks("pins too great", 9, off+pins, word(off+pins, 1<<62+1)),
		breaks("next", 10, off+next, one(off+next+6, 3)),
		breaks("slots 24", 19, off+slots, word(off+slots, 24)),
		breaks("slots 131072", 19, off+slots, word(off+slots, 131072)),
		breaks("depth below 0", 20, off+deep, word(off+deep, -1)),
		breaks("depth above the directory's", 20, off+deep, word(off+deep, 3)),
	}
}

// retiredRules: those of a retired one that the word at the place names, up to its cells. (head: a header, whose first word is no kind.)
func retiredRules(place, off, head int) []broken {
	return []broken{
		breaks("a retired one without a block", 6, place, word(place, off+8)),
		breaks("a retired one that is none", 8, head, word(place, head)),
		breaks("a retired one's kind", 8, off, word(off, 2)),
		breaks("a retired one's pins", 9, off+pins, word(off+pins, 0)),
		breaks("a retired one's pins, too great", 9, off+pins, word(off+pins, 1<<62+1)),
	}
}

// smallRules: those of a small block of five keys, from its group on.
func (w world) smallRules(s small.Small, twin string) []broken {
	w.t.Helper()
	off := s.Off()
	g := off + 32
	at5 := g + layout.KeyAt(w.l, 5)
	l := w.slotRules(g, 4, twin, w.load(g+layout.BirthAt(w.l, 0)))
	return append(l,
		breaks("an empty slot's first byte", 12, at5, one(at5, 1)),
		breaks("a deleted slot", 11, g+6, one(g+6, 254)),
		breaks("an odd slot", 11, g+7, one(g+7, 255)),
		breaks("a small block's used", 17, off+held, word(off+held, 4)),
		breaks("a spare byte", 18, g+w.l.Group, one(g+w.l.Group, 9)),
		breaks("the last spare byte", 18, off+255, one(off+255, 9)),
	)
}

// retire: the table or small block is retired, with one walk on it.
func retire(t *testing.T, next int, x interface {
	Retire(int) api.Errno
	Pin(int) (int, api.Errno)
}) {
	t.Helper()
	answers(t, "Retire", x.Retire(next), api.OK)
	_, e := x.Pin(1)
	answers(t, "Pin", e, api.OK)
}

// richWide: a map with a directory of depth 2, three tables, and three retired ones, a small block, a table, a small block; and its rules in the chapter's order.
func richWide(t *testing.T) (world, int, []broken) {
	w := beginWith(t, gappy, richOver()...)
	head := w.bare()
	a, b, c := w.richTable(1, 0, 0), w.richTable(2, 2, 10), w.richTable(2, 3, 20)
	d := w.hang(head, 24, 40, a, b, c)
	// The retired ones hold keys and births that the tables have too.
	last := w.aSmall(10, richKeys(2, 5)...)
	retire(t, 0, last)
	mid := w.richTable(1, 2, 10)
	retire(t, last.Off(), mid)
	early := w.aSmall(0, richKeys(0, 5)...)
	retire(t, mid.Off(), early)
	w.lay(word(head+retired, early.Off()))

	rules := headerRules(head)
	rules = append(rules,
		breaks("no directory", 6, head+root, word(head+root, 0)),
		breaks("a directory of another class", 6, head+root, word(head+root, head)))
	for i, x := range []table.Table{a, b, c} {
		first := d.Off() + []int{0, 16, 24}[i]
		rules = append(rules, currentRules(x, head, d.Off(), first)...)
		switch i {
		case 0:
			rules = append(rules, breaks("an entry that differs", 21, first+8, word(first+8, b.Off())))
		case 1:
			rules = append(rules,
				breaks("an entry that is no multiple of 4", 21, first, word(b.Off()+deep, 0)),
				breaks("too little depth", 21, first+8, word(b.Off()+deep, 1)),
				breaks("groups claimed twice", 7, b.Off()+groups, word(b.Off()+groups, groupsOf(t, a))))
		case 2:
			rules = append(rules, breaks("an entry that is no multiple of 2", 21, first, word(c.Off()+deep, 1)))
		}
		top := []int{0, 2, 3}[i]
		rules = append(rules, w.tableRules(x, richKey(top, 0), richKey([]int{2, 1, 1}[i], 8))...)
	}
	rules = append(rules, breaks("the map's used", 17, head, word(head+used, 23)))
	rules = append(rules, retiredRules(head+retired, early.Off(), head)...)
	rules = append(rules, w.smallRules(early, richKey(0, 0))...)
	rules = append(rules, retiredRules(early.Off()+next, mid.Off(), head)...)
	rules = append(rules,
		breaks("a retired table's slots", 19, mid.Off()+slots, word(mid.Off()+slots, 4)),
		breaks("a retired table's depth", 20, mid.Off()+deep, word(mid.Off()+deep, 7)),
		breaks("a retired table's depth below 0", 20, mid.Off()+deep, word(mid.Off()+deep, -1)),
		breaks("a retired table's groups", 7, mid.Off()+groups, word(mid.Off()+groups, groupsOf(t, a))))
	rules = append(rules, w.tableRules(mid, richKey(2, 0), richKey(1, 8))...)
	rules = append(rules, breaks("a ring", 7, mid.Off()+next, word(mid.Off()+next, early.Off())))
	rules = append(rules, retiredRules(mid.Off()+next, last.Off(), head)...)
	rules = append(rules, w.smallRules(last, richKey(2, 0))...)
	return w, head, append(rules,
		breaks("a ring of one", 7, last.Off()+next, word(last.Off()+next, last.Off())),
		breaks("one that is none", 6, last.Off()+next, word(last.Off()+next, -16)))
}

// richSmall: a small map with a retired small block, and its rules in the chapter's order.
func richSmall(t *testing.T) (world, int, []broken) {
	w := beginWith(t, gappy, richOver()...)
	head := w.bare()
	s, r := w.aSmall(0, richKeys(1, 5)...), w.aSmall(0, richKeys(1, 5)...)
	retire(t, 0, r)
	w.lay(word(head+used, 5), word(head+births, 40), word(head+root, s.Off()), word(head+retired, r.Off()))
	rules := append(headerRules(head),
		breaks("no small block", 6, head+root, word(head+root, 17)),
		breaks("a small block of another class", 6, head+root, word(head+root, head)),
		breaks("a small block's kind", 8, s.Off(), word(s.Off(), 2)),
		breaks("its pins below 0", 9, s.Off()+pins, word(s.Off()+pins, -1)),
		breaks("its pins too great", 9, s.Off()+pins, word(s.Off()+pins, 1<<62+1)),
		breaks("its next", 10, s.Off()+next, word(s.Off()+next, r.Off())))
	rules = append(rules, w.smallRules(s, richKey(1, 0))...)
	rules = append(rules, breaks("the map's used", 17, head, word(head+used, 6)))
	rules = append(rules, retiredRules(head+retired, r.Off(), head)...)
	return w, head, append(rules, w.smallRules(r, richKey(1, 0))...)
}

// TestEachRule: P15.1: each rule by itself, at its place; and of two the one that the chapter asks for first.
func TestEachRule(t *testing.T) {
	for name, rich := range map[string]func(t *testing.T) (world, int, []broken){"wide": richWide, "small": richSmall} {
		t.Run(name, func(t *testing.T) {
			w, head, rules := rich(t)
			w.asks("P15.1: nothing broken", head, api.Finding{})
			for _, x := range rules {
				w.asks("P15.1: "+x.what, head, x.want, x.pokes...)
			}
			two := 0
			for i, x := range rules {
				for _, y := range rules[i+1:] {
					if overlap(x, y) {
						continue
					}
					two++
					w.asks("P15.1: "+x.what+" ahead of "+y.what, head, x.want, append(y.pokes[:len(y.pokes):len(y.pokes)], x.pokes...)...)
				}
			}
			if two < 700 {
				t.Errorf("P15.1: only %d pairs of rules", two)
			}
			w.asks("P15.1: nothing broken any more", head, api.Finding{})
		})
	}
}

// TestEachCode: all the chapter's codes are among the rules.
func TestEachCode(t *testing.T) {
	met := map[int]int{1: 1, 26: 1} // TestLayouts and TestLost have these
	for _, rich := range []func(t *testing.T) (world, int, []broken){richWide, richSmall} {
		_, _, rules := rich(t)
		for _, x := range rules {
			met[x.want.Code]++
		}
	}
	for code := 1; code <= 26; code++ {
		if met[code] == 0 != (code == 2 || code == 5) {
			t.Errorf("P15.1: code %d: %d rules", code, met[code])
		}
	}
}

// TestSameSlot: P15.1: rules of one slot that are broken by the same bytes: a key that is there twice, and of another table, and out of reach.
func TestSameSlot(t *testing.T) {
	w, head, _ := richWide(t)
	d := w.load(head + root)
	a, b := table.At(w.a, w.l, w.load(d)), table.At(w.a, w.l, w.load(d+16))
	ga, gb := groupsOf(t, a), groupsOf(t, b)
	at := gb + w.l.Group + layout.KeyAt(w.l, 0)
	other := poke{at, richKey(0, 0)} // table a's key 0, in table b, where key 8 was: the same tag
	w.asks("P15.1: 15 ahead of 23", head, api.Finding{Code: 15, Off: at}, other)
	w.asks("P15.1: 15 ahead of 23 and 24", head, api.Finding{Code: 15, Off: at}, other, one(gb+3, 128))
	stranger := poke{at, richKey(1, 8)}
	w.asks("P15.1: 23 ahead of 24", head, api.Finding{Code: 23, Off: at}, stranger, one(gb+3, 128))
	atA := ga + w.l.Group + layout.KeyAt(w.l, 0)
	w.asks("P15.1: 15 ahead of 24", head, api.Finding{Code: 15, Off: atA}, poke{atA, richKey(0, 4)}, one(ga+3, 128))
	if oracle.Tag(w.o.Hash(7, richKey(0, 4))) != oracle.Tag(w.o.Hash(7, richKey(0, 8))) {
		t.Fatal("the keys have not one tag")
	}
}
