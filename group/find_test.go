package group_test

import (
	"fmt"
	"testing"

	"larder/api"
	"larder/arena"
	"larder/group"
)

// TestFindTheLowest: the same tag and key in each of the 256 sets of slots, beside them the key with another tag and the tag with another key.
func TestFindTheLowest(t *testing.T) {
	for _, d := range [][5]int{descriptors[0], descriptors[3], descriptors[7]} {
		b := set(t, d, 21)
		for mask := range 256 {
			for i := range 8 {
				switch {
				case mask>>i&1 == 1:
					b.put(i, full(b.l, 5, 1, i, i))
				case i%2 == 0:
					b.put(i, full(b.l, 6, 1, i, i))
				default:
					b.put(i, full(b.l, 5, 2, i, i))
				}
			}
			b.finds(fmt.Sprintf("the slots %08b", mask), 5, text(b.l.Key, 1))
			b.finds(fmt.Sprintf("the others' tag, %08b", mask), 6, text(b.l.Key, 1))
			b.finds(fmt.Sprintf("the others' key, %08b", mask), 5, text(b.l.Key, 2))
			b.finds(fmt.Sprintf("what is nowhere, %08b", mask), 6, text(b.l.Key, 2))
		}
		b.holds("P6.5: behind all that was found")
	}
}

// TestFindLooksAtEachByte: keys that differ in one byte, the first and the last among them.
func TestFindLooksAtEachByte(t *testing.T) {
	benches(t, func(b *bench) {
		key := text(b.l.Key, 9)
		b.put(4, api.Cell{Kind: api.CellFull, Tag: 64, Key: key, Elem: text(b.l.Elem, 1)})
		b.finds("the key itself", 64, key)
		for n := range key {
			for _, by := range []byte{1, 0x80, 0xFF} {
				other := []byte(key)
				other[n] ^= by
				b.finds("a key that differs in one byte", 64, string(other))
			}
		}
	})
}

// TestFindEachTag: the same key under a tag, asked for under every tag.
func TestFindEachTag(t *testing.T) {
	b := set(t, [5]int{2, 1, 1, 1, 16}, 0)
	for tag := range 128 {
		b.put(tag%8, full(b.l, tag, 1, 1, 1))
		for asked := range 128 {
			b.finds("each tag", asked, text(b.l.Key, 1))
		}
	}
}

// TestFindNoVacantSlot: a vacant slot's bytes are those of a key of zeros, and its mark's low bits those of a tag; it is not found.
func TestFindNoVacantSlot(t *testing.T) {
	benches(t, func(b *bench) {
		zero := text(b.l.Key, 0)
		for _, kind := range []int{api.CellEmpty, api.CellDeleted} {
			for i := range 8 {
				b.put(i, full(b.l, 5, 1, 1, 1))
				b.put(i, api.Cell{Kind: kind})
				for _, tag := range []int{0, 5, 126, 127} {
					b.finds("vacant slots", tag, zero)
					b.finds("vacant slots", tag, text(b.l.Key, 1))
				}
			}
		}
		b.put(6, full(b.l, 0, 0, 0, 0))
		b.finds("one full slot of zeros among vacant ones", 0, zero)
		b.finds("one full slot of zeros among vacant ones", 126, zero)
	})
}

// TestFindInABlockOfZeros: eight full cells with the tag 0 and a key of zeros, before Reset is called.
func TestFindInABlockOfZeros(t *testing.T) {
	for _, d := range descriptors {
		l := lay(t, d)
		a, _ := arena.New(1 << 16)
		off, _ := a.Alloc(l.Group)
		g := group.At(a, l, off)
		for _, c := range []struct{ tag, key, want int }{{0, 0, 0}, {1, 0, 8}, {0, 1, 8}} {
			if i, e := g.Find(c.tag, text(l.Key, c.key)); i != c.want || e != api.OK {
				t.Errorf("P6.5: %v: Find of tag %d, key %d in zeros = %d, error %d, want %d", d, c.tag, c.key, i, e, c.want)
			}
		}
	}
}
