package small_test

import (
	"math"
	"testing"

	"larder/api"
)

// TestNoKeyToEight: each put takes the lowest slot; a ninth finds no room, and changes nothing.
func TestNoKeyToEight(t *testing.T) {
	benches(t, func(b *bench) {
		for i := range 8 {
			if out := b.put(i%3, 1+i, 50+i, 1000+i); out != api.PutAdded {
				t.Fatalf("P11.4: key number %d: outcome %d", i, out)
			}
			if n, e := b.s.Find(i%3, text(b.l.Key, 1+i)); n != i || e != api.OK {
				t.Fatalf("P11.4: key number %d lies in slot %d, error %d", i, n, e)
			}
			b.holds("P11.4: Put")
		}
		for _, tag := range []int{0, 1, 2, 5, 127} {
			if out := b.put(tag, 99, 1, 0); out != api.PutNoRoom {
				t.Fatalf("P11.4: a ninth key: outcome %d", out)
			}
			b.holds("P11.4: a ninth key")
		}
	})
}

// TestReplacedKeepsBirthAndTag: each of one to eight keys; the elem alone is new, used stays.
func TestReplacedKeepsBirthAndTag(t *testing.T) {
	benches(t, func(b *bench) {
		for n := 1; n <= 8; n++ {
			b.put((n-1)%3, n, 50, 1000+n)
			for i := 1; i <= n; i++ {
				key, elem := text(b.l.Key, i), text(b.l.Elem, 100+n+i)
				for _, birth := range []int{0, 1, math.MaxInt} {
					if out := b.putText((i-1)%3, key, elem, birth); out != api.PutReplaced {
						t.Fatalf("P11.4: key %d of %d: outcome %d", i, n, out)
					}
				}
				want := api.Cell{Kind: api.CellFull, Tag: (i - 1) % 3, Key: key, Elem: elem, Birth: 1000 + i}
				if c, e := b.s.Get((i-1)%3, key); c != want || e != api.OK {
					t.Fatalf("P11.4: the replaced cell is %#v, error %d, want %#v", c, e, want)
				}
			}
			b.holds("P11.4: replaced")
		}
	})
}

// TestKeysThatShareATag: eight keys with one tag, the least and the greatest; each is found, and no other.
func TestKeysThatShareATag(t *testing.T) {
	for _, tag := range []int{0, 1, 5, 64, 126, 127} {
		benches(t, func(b *bench) {
			for i := range 8 {
				b.put(tag, 1+i, 20+i, i)
			}
			b.holds("P11.3: keys that share a tag")
			for i := range 10 {
				b.finds("P11.3: one of them, or none", tag, text(b.l.Key, i))
				b.finds("P11.3: with another tag", tag^1, text(b.l.Key, i))
			}
			b.delete(tag, 4)
			b.finds("P11.3: a deleted one", tag, text(b.l.Key, 4))
			b.holds("P11.5: keys that share a tag")
		})
	}
}

// TestEachTag: a key is found with its own tag alone.
func TestEachTag(t *testing.T) {
	b := set(t, descriptors[3])
	for tag := range 128 {
		b.put(tag, 7, 8, tag)
		for other := range 128 {
			b.finds("P11.3: each tag", other, text(5, 7))
		}
		b.holds("P11.4: each tag")
		b.delete(tag, 7)
	}
}

// TestOneKeyUnderTwoTags: it is put a second time, and each of the two is found, replaced and deleted by its own tag.
func TestOneKeyUnderTwoTags(t *testing.T) {
	benches(t, func(b *bench) {
		b.put(5, 1, 2, 10)
		if out := b.put(6, 1, 3, 11); out != api.PutAdded {
			t.Fatalf("P11.4: one key under a second tag: outcome %d", out)
		}
		b.holds("P11.4: one key under two tags")
		b.put(6, 1, 4, 12)
		b.put(5, 1, 5, 13)
		b.holds("P11.4: both replaced")
		b.delete(5, 1)
		b.finds("P11.5: the deleted one", 5, text(b.l.Key, 1))
		b.finds("P11.5: the other one", 6, text(b.l.Key, 1))
		b.holds("P11.5: one of two deleted")
		if b.delete(5, 1) {
			t.Fatal("P11.5: deleted a second time")
		}
		b.delete(6, 1)
		b.holds("P11.5: both deleted")
	})
}

// TestKeysOfZeros: bytes of zero are a key like others; an empty slot, whose bytes are zero, is not taken for one.
func TestKeysOfZeros(t *testing.T) {
	benches(t, func(b *bench) {
		zero := text(b.l.Key, 0)
		b.finds("P11.3: a key of zeros in an empty one", 0, zero)
		b.put(0, 0, 0, 0)
		b.holds("P11.4: a key of zeros")
		b.delete(0, 0)
		b.holds("P11.5: a key of zeros")
		b.finds("P11.3: a deleted key of zeros", 0, zero)
	})
}

// TestADeletedSlotIsEmpty: each slot of one to eight keys: its bytes are zero, its control byte is an empty one's, used goes down.
func TestADeletedSlotIsEmpty(t *testing.T) {
	for n := 1; n <= 8; n++ {
		for slot := range n {
			benches(t, func(b *bench) {
				b.fill(n)
				b.drop(slot)
				if v, e := b.a.Load(b.off+32+slot, 1); v != 128 || e != api.OK {
					t.Fatalf("P11.5: the control byte of a deleted slot is %d, error %d, want 128", v, e)
				}
				bytes, e := b.a.Read(b.off+40+slot*b.l.Slot, b.l.Slot)
				answers(t, "Read", e, api.OK)
				alike(t, "P11.5: a deleted slot", bytes, string(make([]byte, b.l.Slot)))
				if st, e := b.s.Stat(); st.Used != n-1 || e != api.OK {
					t.Fatalf("P11.5: used is %d, error %d, want %d", st.Used, e, n-1)
				}
				b.holds("P11.5: Delete")
			})
		}
	}
}

// TestTheLowestSlot: of several empty ones.
func TestTheLowestSlot(t *testing.T) {
	for emptied := 1; emptied < 256; emptied++ {
		b := set(t, descriptors[0])
		b.fill(8)
		for slot := range 8 {
			if emptied>>slot&1 == 1 {
				b.drop(slot)
			}
		}
		for slot := range 8 {
			if emptied>>slot&1 == 0 {
				continue
			}
			b.put(9, 60+slot, 3, slot)
			if n, e := b.s.Find(9, text(1, 60+slot)); n != slot || e != api.OK {
				t.Fatalf("P11.4: with the slots of %#b empty a key lies in slot %d, error %d, want %d", emptied, n, e, slot)
			}
		}
		if out := b.put(9, 99, 3, 0); out != api.PutNoRoom {
			t.Fatalf("P11.4: filled up again: outcome %d", out)
		}
		b.holds("P11.4: filled up again")
	}
}

// TestDeleteOfNothing: false, and nothing changes: no key, another key, another tag, a key that was deleted.
func TestDeleteOfNothing(t *testing.T) {
	benches(t, func(b *bench) {
		gone := func(tag, key int) {
			t.Helper()
			if b.delete(tag, key) {
				t.Fatalf("P11.5: Delete(%d, key %d) is true", tag, key)
			}
			b.holds("P11.5: Delete of nothing")
		}
		gone(0, 0)
		gone(0, 1)
		b.fill(8)
		gone(0, 9)
		gone(1, 1)
		gone(127, 1)
		b.delete(0, 1)
		gone(0, 1)
	})
}

// TestPutAndDeleteAgain: a slot that is used again and again never wears.
func TestPutAndDeleteAgain(t *testing.T) {
	b := set(t, descriptors[3])
	b.fill(7)
	for i := range 300 {
		b.put(5, 20+i%100, i%200, i)
		b.delete(5, 20+i%100)
	}
	b.holds("P11.4, P11.5: again and again")
	b.put(5, 200, 1, 1)
	if st, _ := b.s.Stat(); st.Used != 8 {
		t.Errorf("P11.4: used is %d, want 8", st.Used)
	}
}
