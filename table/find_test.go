package table_test

import (
	"fmt"
	"math"
	"testing"

	"larder/api"
)

// TestFindGoesByTagAndKey: a full slot with another tag, or another key, is passed over.
func TestFindGoesByTagAndKey(t *testing.T) {
	benches(t, func(b *bench) {
		for i, tag := range []int{0, 1, 63, 64, 126, 127} {
			b.put(hash(0, tag), 7+i, 90, i)
		}
		b.put(hash(0, 5), 7, 91, 6) // the key of the first, with another tag
		for _, tag := range []int{0, 1, 2, 5, 63, 64, 65, 126, 127} {
			for key := range 14 {
				b.finds("P8.4", hash(0, tag), text(b.l.Key, key))
			}
		}
		if n, e := b.tb.Find(hash(0, 5), text(b.l.Key, 7)); n != 6 || e != api.OK {
			t.Fatalf("P8.4: the key with the second tag is in slot %d, error %d, want 6", n, e)
		}
	})
}

// TestFindWholeHomes: homes that differ in their highest bits alone have one way.
func TestFindWholeHomes(t *testing.T) {
	b := set(t, descriptors[0], 64, 0)
	b.put(hash(3, 9), 1, 2, 0)
	for _, home := range []uint64{3, 11, 1<<56 + 3, 1<<57 - 5} {
		if n, e := b.tb.Find(hash(home, 9), text(1, 1)); n != 24 || e != api.OK {
			t.Errorf("P8.4: with home %d the key is in slot %d, error %d, want 24", home, n, e)
		}
	}
	for _, home := range []uint64{0, 1, 2, 4, 7, 1 << 56} {
		if n, e := b.tb.Find(hash(home, 9), text(1, 1)); n != -1 || e != api.OK {
			t.Errorf("P8.4: with home %d the key is in slot %d, error %d, want -1", home, n, e)
		}
	}
}

// TestFindTakesTheFirst: one key in two slots of one way: the first in the way's order is the answer, not the one with the lower number.
func TestFindTakesTheFirst(t *testing.T) {
	b := set(t, descriptors[3], 64, 0)
	// The way of home 3 is 3, 4, 6, 1, ..: it is filled up to group 1; group 1's slot 0 and group 4's slot 2 get one key.
	for i, g := range []int{3, 4, 6} {
		for s := range 8 {
			b.put(hash(uint64(g), 77), 1+8*i+s, 5, 8*i+s)
		}
	}
	twice := text(b.l.Key, 100)
	b.putText(hash(1, 9), twice, text(b.l.Elem, 1), 50)
	b.finds("P8.4: in group 1 alone", hash(3, 9), twice)
	b.delete(hash(4, 77), 1+8+2) // a deleted slot ahead of group 1 on the way of home 4
	b.finds("P8.4: behind a deleted slot", hash(3, 9), twice)
	g, e := b.tb.Group(4)
	answers(t, "Group", e, api.OK)
	answers(t, "Fill", g.Fill(2, 9, twice, text(b.l.Elem, 2), 51), api.OK)
	b.p.cells[34] = api.Cell{Kind: api.CellFull, Tag: 9, Key: twice, Elem: text(b.l.Elem, 2), Birth: 51}
	if n, e := b.tb.Find(hash(3, 9), twice); n != 34 || e != api.OK {
		t.Errorf("P8.4: the first on the way is in slot 34, Find answers %d, error %d", n, e)
	}
	b.finds("P8.4: the first of two", hash(3, 9), twice)
	if n, e := b.tb.Probes(hash(3, 9), twice); n != 2 || e != api.OK {
		t.Errorf("P8.6: Probes = %d, error %d, want 2", n, e)
	}
	b.finds("P8.4: the other of the two, by its own home", hash(1, 9), twice)
}

// TestProbesAlongTheWay: with all hashes equal, groups fill up in the order of the way.
func TestProbesAlongTheWay(t *testing.T) {
	for slots, order := range map[int][]int{8: {0}, 16: {1, 0}, 64: {5, 6, 0, 3, 7, 4, 2, 1}} {
		b := set(t, descriptors[0], slots, 0)
		h := hash(5, 77)
		for i := range most[slots] {
			want := 8*order[i/8] + i%8
			if out := b.put(h, 1+i, 3, i); out != api.PutAdded {
				t.Fatalf("P8.7: put %d of %d: %d", i, slots, out)
			}
			if n, e := b.tb.Find(h, text(1, 1+i)); n != want || e != api.OK {
				t.Fatalf("P8.4, P8.7: key %d of %d is in slot %d, error %d, want %d", i, slots, n, e, want)
			}
			if n, e := b.tb.Probes(h, text(1, 1+i)); n != i/8+1 || e != api.OK {
				t.Fatalf("P8.6: Probes of key %d of %d: %d, error %d, want %d", i, slots, n, e, i/8+1)
			}
			if n, e := b.tb.Probes(h, text(1, 200)); n != (i+1)/8+1 || e != api.OK {
				t.Fatalf("P8.6: Probes of no key, behind %d of %d: %d, error %d, want %d", i, slots, n, e, (i+1)/8+1)
			}
		}
		b.holds("P8.6: a way of all groups")
	}
}

// TestProbesOfAllGroups: of a table of 64 slots whose first seven groups on the way are full, all eight are looked at, and no more.
func TestProbesOfAllGroups(t *testing.T) {
	b := set(t, descriptors[1], 64, 0)
	for i := range 56 {
		b.put(hash(0, 1), 1+i, 0, i)
	}
	for home := range uint64(16) {
		b.finds("P8.6", hash(home, 1), text(1, 250))
		if n, e := b.tb.Probes(hash(home, 1), text(1, 250)); n < 1 || n > 8 || e != api.OK {
			t.Errorf("P8.6: Probes with home %d: %d, error %d", home, n, e)
		}
	}
	if n, _ := b.tb.Probes(hash(0, 1), text(1, 250)); n != 8 {
		t.Errorf("P8.6: Probes of no key with home 0: %d, want 8", n)
	}
}

// TestKeysOfWrongWidth: they come ahead of all else that is wrong, and nothing changes.
func TestKeysOfWrongWidth(t *testing.T) {
	benches(t, func(b *bench) {
		b.crowd()
		for _, key := range widths(b.l.Key) {
			for _, name := range []string{"Find", "Get", "Probes", "Delete"} {
				refuses(t, named(name), b.tb, args{h: 5, key: key}, api.ErrKeyWidth)
			}
			for _, elem := range append(widths(b.l.Elem), text(b.l.Elem, 3)) {
				for _, birth := range append([]int{0}, noBirth...) {
					refuses(t, named("Put"), b.tb, args{h: 5, key: key, elem: elem, birth: birth}, api.ErrKeyWidth)
				}
			}
		}
	})
}

// TestElemsAndBirthsThatAreWrong: of a key that is there and of one that is not, with room and without.
func TestElemsAndBirthsThatAreWrong(t *testing.T) {
	benches(t, func(b *bench) {
		check := func() {
			for _, x := range []args{{h: hash(0, 1), key: text(b.l.Key, 2)}, {h: hash(0, 1), key: text(b.l.Key, 200)}} {
				for _, x.elem = range widths(b.l.Elem) {
					for _, x.birth = range append([]int{0, math.MaxInt}, noBirth...) {
						refuses(t, named("Put"), b.tb, x, api.ErrElemWidth)
					}
				}
				x.elem = text(b.l.Elem, 3)
				for _, x.birth = range noBirth {
					refuses(t, named("Put"), b.tb, x, api.ErrBirth)
				}
			}
		}
		check()
		b.crowd()
		check()
		for i := 0; b.p.left > 0; i++ {
			b.put(hash(uint64(i), 9), 100+i, 1, i)
		}
		check()
	})
}

// TestPutReplaces: the elem alone; the birth, the tag, the counts and the slot stay.
func TestPutReplaces(t *testing.T) {
	benches(t, func(b *bench) {
		n := most[len(b.p.cells)]
		for i := range n {
			b.put(hash(uint64(i/3), i), 1+i, 60+i, 500+i)
		}
		for i := range n {
			before, _ := b.tb.Get(hash(uint64(i/3), i), text(b.l.Key, 1+i))
			if out := b.put(hash(uint64(i/3), i), 1+i, 120+i, 9); out != api.PutReplaced {
				t.Fatalf("P8.7: Put of a key that is there: %d", out)
			}
			after, _ := b.tb.Get(hash(uint64(i/3), i), text(b.l.Key, 1+i))
			before.Elem = text(b.l.Elem, 120+i)
			if before != after {
				t.Fatalf("P8.7: the cell of a key that was there is %#v, want %#v", after, before)
			}
			b.stat("P8.7: replaced")
		}
		b.holds("P8.7: each key put again, in a table without room")
	})
}

// TestPutBirths: each birth from 0 on is kept whole.
func TestPutBirths(t *testing.T) {
	births := []int{0, 1, 255, 256, 1 << 32, 0x0102030405060708, math.MaxInt}
	for _, d := range descriptors {
		b := set(t, d, 8, 0)
		for i, birth := range births {
			b.put(hash(uint64(i), i), 1+i, 2, birth)
			if c, e := b.tb.Get(hash(uint64(i), i), text(b.l.Key, 1+i)); c.Birth != birth || e != api.OK {
				t.Fatalf("P8.7: the birth is %d, error %d, want %d", c.Birth, e, birth)
			}
		}
		b.holds("P8.7: births")
	}
}

// TestPutWithoutRoom: a table that is full to its room refuses each key that would need an empty slot, whatever its home, and changes nothing.
func TestPutWithoutRoom(t *testing.T) {
	benches(t, func(b *bench) {
		n := most[len(b.p.cells)]
		for i := range n {
			if out := b.put(hash(uint64(i), i), 1+i, 2, i); out != api.PutAdded {
				t.Fatalf("P8.7: put %d of %d: %d", i, n, out)
			}
		}
		before := look(t, b.a)
		for home := range uint64(16) {
			if out, e := b.tb.Put(hash(home, 3), text(b.l.Key, 200), text(b.l.Elem, 1), 7); out != api.PutNoRoom || e != api.OK {
				t.Fatalf("P8.7: Put without room, home %d: %d, error %d", home, out, e)
			}
			like(t, "P8.7: PutNoRoom", b.a, before)
		}
		counts(t, b.tb, n, 0)
	})
}

// TestDeletedSlotsTakenAgain: without room too, and the room stays as it is.
func TestDeletedSlotsTakenAgain(t *testing.T) {
	for _, d := range descriptors {
		b := set(t, d, 64, 1)
		for i := range 56 {
			b.put(hash(0, 7), 1+i, 2, i)
		}
		for _, i := range []int{5, 2, 30, 12} {
			slot, _ := b.p.find(hash(0, 7), text(b.l.Key, 1+i))
			b.delete(hash(0, 7), 1+i)
			cellIs(t, b.tb, slot, api.Cell{Kind: api.CellDeleted})
		}
		counts(t, b.tb, 52, 0)
		b.holds("P8.8: deleted where no empty slot is")
		for i := range 4 {
			if out := b.put(hash(0, 8), 100+i, 3, 100+i); out != api.PutAdded {
				t.Fatalf("P8.7: Put where a deleted slot is on the way: %d", out)
			}
			counts(t, b.tb, 53+i, 0)
		}
		for i, slot := range []int{2, 5, 12, 54} { // the way begins with the groups 0, 1, 3, 6
			cellIs(t, b.tb, slot, api.Cell{Kind: api.CellFull, Tag: 8, Key: text(b.l.Key, 100+i), Elem: text(b.l.Elem, 3), Birth: 100 + i})
		}
		if out := b.put(hash(0, 8), 110, 3, 0); out != api.PutNoRoom {
			t.Fatalf("P8.7: Put without room and without a deleted slot: %d", out)
		}
		b.holds("P8.7: deleted slots taken again")
	}
}

// TestDeletedAheadOfEmpty: a deleted slot on the way is taken, though a group behind it has empty ones.
func TestDeletedAheadOfEmpty(t *testing.T) {
	b := set(t, descriptors[0], 16, 0)
	for i := range 9 {
		b.put(hash(0, 5), 1+i, 2, i)
	}
	b.delete(hash(0, 5), 1+6)
	b.delete(hash(0, 5), 1+3)
	left := b.p.left
	for _, slot := range []int{3, 6, 9} {
		b.put(hash(0, 5), 50+slot, 2, 0)
		isIn(t, b.tb, hash(0, 5), text(1, 50+slot), slot)
	}
	counts(t, b.tb, 10, left-1)
}

// TestDeleteMakesEmptyOrDeleted: the two cases, slot by slot.
func TestDeleteMakesEmptyOrDeleted(t *testing.T) {
	for _, d := range descriptors {
		for slot := range 8 {
			b := set(t, d, 16, 0)
			for i := range 11 {
				b.put(hash(0, i), 1+i, 30+i, 40+i)
			}
			b.delete(hash(0, slot), 1+slot)
			cellIs(t, b.tb, slot, api.Cell{Kind: api.CellDeleted})
			counts(t, b.tb, 10, 3)
			if slot < 3 {
				b.delete(hash(0, 8+slot), 9+slot)
				cellIs(t, b.tb, 8+slot, api.Cell{})
				counts(t, b.tb, 9, 4)
			}
			b.holds(fmt.Sprint("P8.8: Delete in slot ", slot))
			if b.delete(hash(0, slot), 1+slot) {
				t.Fatal("P8.8: what is deleted is deleted again")
			}
			b.holds("P8.8: Delete of what is not there")
		}
	}
}

// TestDeleteOfAnother: a key with another tag, another key, another way: nothing changes.
func TestDeleteOfAnother(t *testing.T) {
	benches(t, func(b *bench) {
		b.crowd()
		before := look(t, b.a)
		for _, x := range []args{{h: hash(0, 99), key: text(b.l.Key, 2)}, {h: hash(0, 1), key: text(b.l.Key, 200)}, {h: hash(1<<56, 2), key: text(b.l.Key, 2)}} {
			if was, e := b.tb.Delete(x.h, x.key); was || e != api.OK {
				t.Fatalf("P8.8: Delete of what is not there: %v, error %d", was, e)
			}
			like(t, "P8.8: Delete of what is not there", b.a, before)
		}
	})
}
