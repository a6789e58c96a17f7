package swiss_test

import (
	"fmt"
	"strings"
	"testing"

	"larder/api"
)

// TestPutOneByOne: the first key, eight, a ninth, and on; each is put again; all bytes behind each put.
func TestPutOneByOne(t *testing.T) {
	t.Parallel()
	done := steps{}
	for i, d := range descriptors {
		for _, k := range kinds {
			l := lay(t, d)
			w := begin(t, 1<<20, l, ask(t, k.over(d[0])...))
			w.g.steps = done
			x := w.make(l, uint64(i), 0)
			for key := range 40 {
				answers(t, "P12.8: Put", w.put(x, 1+key, key), api.OK)
				answers(t, "P12.8: Put again", w.put(x, 1+key/2, 100+key), api.OK)
			}
			if st, e := x.m.Stat(); st.Births != 40 || st.Used != 40 || e != api.OK {
				t.Errorf("P12.8: %s: %+v, error %d", k.name, st, e)
			}
		}
	}
	happened(t, done, 5, "small block", "first table", "first directory", "doubling", "doubling above the cap", "widening", "low table", "high table")
}

// marked: a map of one table of 16 slots without room: eight keys of home 0 in its group 0, so many of which are deleted then; in its group 1 six keys, of home 0 or of home 1.
func marked(t *testing.T, home, deleted int) (*world, *pair) {
	t.Helper()
	var over []api.Over
	for i := range 40 {
		at := uint64(home)
		if i < 8 {
			at = 0
		}
		if i >= 20 {
			at = 1
		}
		over = append(over, api.Over{Key: text(1, i), Hash: hash(at, i)})
	}
	l := lay(t, descriptors[0])
	w := begin(t, 1<<16, l, ask(t, over...))
	x := w.make(l, 5, 9)
	w.fill(x, 0, 14)
	for i := range deleted {
		w.delete(x, i)
	}
	if p := x.p.entries[0]; p.left != 0 || len(p.cells) != 16 || len(x.p.pairs) != 14-deleted {
		t.Fatalf("the table has room %d, %d slots, %d keys", p.left, len(p.cells), len(x.p.pairs))
	}
	return w, x
}

// TestPutPrunes: the marks of group 0 are needed by no key of group 1, so they go, and nothing moves; not a byte is taken.
func TestPutPrunes(t *testing.T) {
	for deleted := 1; deleted <= 8; deleted++ {
		w, x := marked(t, 1, deleted)
		before := x.p.entries[0]
		v := w.under(max(w.a.Live(), 1024))
		answers(t, "P12.8: Put", v.put(v.maps[0], 20, 1), api.OK)
		answers(t, "P12.8: Put", w.put(x, 20, 1), api.OK)
		if x.p.entries[0] != before || w.g.steps["prune"] != 2 {
			t.Fatalf("P12.8: with %d marks: the steps are %v", deleted, w.g.steps)
		}
		w.fill(x, 21, deleted-1)
	}
}

// TestPutRenewsOrSplits: the marks of group 0 are needed by the keys of group 1. With seven keys or fewer a new table of the same size is made, with more the table is split.
func TestPutRenewsOrSplits(t *testing.T) {
	for deleted := 1; deleted <= 8; deleted++ {
		w, x := marked(t, 0, deleted)
		refused := w.limits(func(v *world) api.Errno { return v.refusedPut(v.maps[0], 20) })
		old := x.p.entries[0].off
		answers(t, "P12.8: Put", w.put(x, 20, 1), api.OK)
		if renewed := w.g.steps["renewal"] > 0; renewed != (deleted >= 7) || refused < 1 || x.p.entries[0].off == old {
			t.Fatalf("P12.8: with %d marks: the steps are %v, %d limits refuse it", deleted, w.g.steps, refused)
		}
	}
}

// TestPutRenewsUnderAWalk: the old table is retired with all its cells and marks.
func TestPutRenewsUnderAWalk(t *testing.T) {
	w, x := marked(t, 0, 7)
	old := x.p.entries[0].off
	w.pin(x, old)
	answers(t, "P12.8: Put", w.put(x, 20, 1), api.OK)
	if l, e := x.m.Retired(); len(l) != 1 || l[0] != old || e != api.OK {
		t.Errorf("P12.11: Retired is %v, error %d, want %d", l, e, old)
	}
	w.fill(x, 21, 5)
	w.unpin(x, old)
}

// TestPutRenewsATableOfManyEntries: the new one stands at all of them.
func TestPutRenewsATableOfManyEntries(t *testing.T) {
	var over []api.Over
	for i := range 60 {
		h := hash(1<<56, i) // the upper half of the directory
		if i >= 20 {
			h = hash(1<<56+1, i)
		}
		if i >= 40 {
			h = hash(0, i)
		}
		over = append(over, api.Over{Key: text(1, i), Hash: h})
	}
	l := lay(t, descriptors[0])
	w := begin(t, 1<<16, l, ask(t, over...))
	x := w.make(l, 5, 0)
	w.fill(x, 40, 15) // six splits, all keys on the lower side
	w.fill(x, 0, 14)
	for i := range 7 {
		w.delete(x, i)
	}
	old := x.p.entries[32].off
	answers(t, "P12.8: Put", w.put(x, 20, 1), api.OK)
	d, _, _ := x.m.Dir()
	now, _ := d.Entry(32)
	for i := range 32 {
		if off, e := d.Entry(32 + i); off != now || off == old || e != api.OK {
			t.Fatalf("P12.8, P12.16: entry %d is %d, error %d; the old table lay at %d, the new one at %d", 32+i, off, e, old, now)
		}
	}
	if w.g.steps["renewal"] != 1 || d.Depth() != 6 {
		t.Errorf("the steps are %v, the depth is %d", w.g.steps, d.Depth())
	}
	w.fill(x, 21, 4)
}

// TestPutAndDelete: keys come and go; first few stay, then all go.
func TestPutAndDelete(t *testing.T) {
	t.Parallel()
	done := steps{}
	for _, d := range descriptors[:5] {
		for _, k := range kinds {
			l := lay(t, d)
			w := begin(t, 1<<20, l, ask(t, k.over(d[0])...))
			w.g.steps, w.brief = done, true
			x := w.make(l, 5, 9)
			for round := range 4 {
				for key := range 24 {
					w.put(x, 1+key+10*round, key)
					if key > 3 && round%2 == 0 {
						w.delete(x, 1+key-3+10*round)
					}
				}
				for key := range 30 * (round % 2) {
					w.delete(x, 1+key+10*round)
				}
			}
		}
	}
	happened(t, done, 5, "doubling", "doubling above the cap", "low table")
}

// TestEachBlockOfEachPutRefused: whatever a put takes, under the limits at which each block of it just fits and just doesn't: which steps stay, and that keys, elems, births and used are what they were.
func TestEachBlockOfEachPutRefused(t *testing.T) {
	t.Parallel()
	done := steps{}
	for _, d := range descriptors[:4] {
		for _, k := range kinds {
			l := lay(t, d)
			w := begin(t, 1<<20, l, ask(t, k.over(d[0])...))
			w.brief = true
			x := w.make(l, 5, 0)
			for i := range 48 {
				if i > 30 && i%3 > 0 {
					w.delete(x, 1+i/2)
				}
				refused := w.limits(func(v *world) api.Errno {
					v.g.steps = done
					return v.refusedPut(v.maps[0], 1+i)
				})
				done["refused"] += refused
				answers(t, "P12.8: Put", w.put(x, 1+i, i), api.OK)
			}
		}
	}
	happened(t, done, 5, "small block refused", "first table refused", "first directory refused", "doubling refused", "doubling above the cap refused", "widening refused", "low table refused", "high table refused")
}

// refusedPut: a put, and where it is refused: nothing that a user sees has changed; and a key that is there takes another elem all the same.
func (w *world) refusedPut(x *pair, key int) api.Errno {
	w.t.Helper()
	before, _ := x.m.Stat()
	live := w.a.Live()
	e := w.put(x, key, 3)
	if e == api.OK {
		return e
	}
	answers(w.t, "P12.9: Put", e, api.ErrMemory)
	if st, _ := x.m.Stat(); st.Used != before.Used || st.Births != before.Births || st.Epoch != before.Epoch || w.a.Live() < live {
		w.t.Fatalf("P12.9: behind a refused put: %+v, live %d, want %+v, %d", st, w.a.Live(), before, live)
	}
	for k := range x.p.pairs {
		answers(w.t, "W8: a put of a key that is there", w.putText(x, k, text(x.p.l.Elem, 8)), api.OK)
		break
	}
	answers(w.t, "P12.9: Put again", w.put(x, key, 3), api.ErrMemory)
	return e
}

// TestPutsUnderEachLimit: whole runs under every limit: a refused put, and those behind it, till the map goes on in other tables.
func TestPutsUnderEachLimit(t *testing.T) {
	t.Parallel()
	for _, k := range kinds {
		l := lay(t, descriptors[0])
		for limit := 0; limit <= 6144; limit += 112 {
			w := begin(t, limit, l, ask(t, k.over(1)...))
			w.brief = true
			x := w.make(l, 5, 0)
			if x == nil {
				continue
			}
			for key := range 24 {
				e := w.put(x, 1+key, key)
				if e != api.OK && key%3 == 0 {
					w.delete(x, 1+key/2)
					w.put(x, 1+key, key)
				}
			}
			answers(t, "P12.3: Clear", x.m.Clear(5), api.OK)
		}
	}
}

// TestNoMemoryLeft: not a byte is free; puts of keys that are there go on, in a small and in a wide map.
func TestNoMemoryLeft(t *testing.T) {
	for _, keys := range []int{1, 8, 9, 14, 40} {
		l := lay(t, descriptors[0])
		w := begin(t, 1<<13, l, ask(t))
		x := w.make(l, 5, 0)
		w.fill(x, 1, keys)
		for off, e := w.a.Alloc(16); e == api.OK; off, e = w.a.Alloc(16) {
			w.g.take(16)
			w.strange[off] = strings.Repeat("\x00", 16)
		}
		for key := range keys {
			answers(t, fmt.Sprintf("W8: %d keys: Put of key %d", keys, 1+key), w.put(x, 1+key, 200+key), api.OK)
		}
	}
}

// TestBirths: they are given one after the other, and a put of a key that is there takes none.
func TestBirths(t *testing.T) {
	l := lay(t, descriptors[2])
	w := begin(t, 1<<16, l, ask(t))
	x := w.make(l, 5, 0)
	births := map[int]int{}
	for i := range 60 {
		key := 1 + i*7%23
		before, _ := x.m.Stat()
		_, there := births[key]
		w.put(x, key, i)
		if !there {
			births[key] = before.Births
		}
		if c, e := x.m.Cell(text(2, key)); c.Birth != births[key] || e != api.OK {
			t.Fatalf("P12.8: the birth of key %d is %d, error %d, want %d", key, c.Birth, e, births[key])
		}
		if i%4 == 0 {
			w.delete(x, 1+i%23)
			delete(births, 1+i%23)
		}
	}
}

// TestLongKeysApartInOneByte: keys that are alike but in their last byte, and elems too.
func TestLongKeysApartInOneByte(t *testing.T) {
	l := lay(t, descriptors[5])
	w := begin(t, 1<<18, l, ask(t))
	x := w.make(l, 5, 0)
	for i := range 12 {
		last := string(rune('a' + i))
		w.putText(x, text(127, 0)+last, last+text(127, 0))
	}
	w.finds("P12.6", x, text(127, 0)+"z")
}
