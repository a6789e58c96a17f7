package group_test

import (
	"fmt"
	"strings"
	"testing"

	"larder/api"
	"larder/arena"
	"larder/group"
)

// kinds: a cell of each kind, and of several tags and births.
func kinds(l api.Layout) []api.Cell {
	return []api.Cell{{}, {Kind: api.CellDeleted}, full(l, 0, 0, 0, 0), full(l, 5, 1, 2, 9), full(l, 127, 200, 201, 1<<63-1), full(l, 126, 3, 4, 1<<32+1)}
}

// TestResetOverAnything: whatever the bytes were, a group of each kind of cells among them.
func TestResetOverAnything(t *testing.T) {
	benches(t, func(b *bench) {
		for _, c := range kinds(b.l) {
			for i := range 8 {
				b.put(i, c)
			}
			b.holds("P6.6, P6.8: eight alike")
			answers(t, "P6.3: Reset", b.g.Reset(), api.OK)
			b.cells = [8]api.Cell{}
			b.holds("P6.3: Reset")
		}
		for _, fill := range []byte{0, 1, 0x80, 0x81, 0xFE, 0xFF} {
			answers(t, "Fill", b.a.Fill(b.block+b.at, b.l.Group, fill), api.OK)
			answers(t, "P6.3: Reset", b.g.Reset(), api.OK)
			b.holds(fmt.Sprintf("P6.3: Reset over bytes %d", fill))
		}
	})
}

// TestFillOverAnything: each slot, over each kind of cell, with all the others full.
func TestFillOverAnything(t *testing.T) {
	benches(t, func(b *bench) {
		for i := range 8 {
			b.put(i, full(b.l, i, 10+i, 20+i, 30+i))
		}
		for i := range 8 {
			for _, old := range kinds(b.l) {
				for _, c := range kinds(b.l) {
					b.put(i, old)
					b.put(i, c)
					b.holds(fmt.Sprintf("P6.6, P6.8: slot %d, kind %d over kind %d", i, c.Kind, old.Kind))
				}
			}
		}
	})
}

// TestFillOfABlockOfZeros: nobody has called Reset.
func TestFillOfABlockOfZeros(t *testing.T) {
	for _, d := range descriptors {
		l := lay(t, d)
		a, _ := arena.New(1 << 16)
		off, _ := a.Alloc(l.Group)
		g := group.At(a, l, off)
		var cells [8]api.Cell
		for i := range cells {
			cells[i] = full(l, 0, 0, 0, 0)
		}
		cells[5] = full(l, 77, 7, 8, 1<<40)
		answers(t, "P6.6: Fill", g.Fill(5, 77, cells[5].Key, cells[5].Elem, 1<<40), api.OK)
		if got, _ := a.Read(off, l.Group); got != painted(l, cells) {
			t.Errorf("P6.6: %v: slot 5 of a group that was never empty", d)
		}
	}
}

func TestFillOfEachTagAndBirth(t *testing.T) {
	for _, d := range descriptors {
		b := set(t, d, 21)
		for tag := range 128 {
			b.put(tag%8, full(b.l, tag, tag, 255-tag, tag))
			b.holds(fmt.Sprintf("P6.6: the tag %d", tag))
		}
		for n, birth := range births {
			b.put(n%8, full(b.l, 3, n, n, birth))
			b.holds(fmt.Sprintf("P6.6: the birth %d", birth))
		}
	}
}

// TestFillTwice: whether another slot has the same key is not looked at.
func TestFillTwice(t *testing.T) {
	benches(t, func(b *bench) {
		for i := 7; i >= 0; i-- {
			b.put(i, full(b.l, 9, 9, 9, 9))
			b.holds("P6.6: the same cell again")
		}
	})
}

// TestSetElemAlone: the elem is another one; tag, key, birth and gaps stay, and so do the other slots.
func TestSetElemAlone(t *testing.T) {
	benches(t, func(b *bench) {
		for i := range 8 {
			b.put(i, full(b.l, 120+i, 10+i, 20+i, 1<<62+i))
		}
		for i := range 8 {
			for _, elem := range []string{text(b.l.Elem, 99), text(b.l.Elem, 0), strings.Repeat("\xff", b.l.Elem), text(b.l.Elem, 1+i)} {
				answers(t, "P6.7: SetElem", b.g.SetElem(i, elem), api.OK)
				b.cells[i].Elem = elem
				b.holds(fmt.Sprintf("P6.7: SetElem(%d)", i))
			}
		}
	})
}

func TestSetElemOfAVacantSlot(t *testing.T) {
	benches(t, func(b *bench) {
		for i := range 8 {
			for _, c := range kinds(b.l)[:2] {
				b.put(i, c)
				answers(t, fmt.Sprintf("P6.7: SetElem of slot %d, kind %d", i, c.Kind), b.g.SetElem(i, text(b.l.Elem, 3)), api.ErrVacant)
				b.holds("P6.7: behind a refused SetElem")
			}
			b.put(i, full(b.l, 1, 2, 3, 4)) // the next slot has full ones on one side
		}
	})
}

// TestPruneOfEachSet: the deleted slots are each of the 256 sets, the others full and empty in turn.
func TestPruneOfEachSet(t *testing.T) {
	for _, d := range [][5]int{descriptors[0], descriptors[3], descriptors[7]} {
		b := set(t, d, 21)
		for mask := range 256 {
			want := 0
			for i := range 8 {
				switch {
				case mask>>i&1 == 1:
					b.put(i, api.Cell{Kind: api.CellDeleted})
					want++
				case i%2 == mask%2:
					b.put(i, full(b.l, 126, i, mask, mask))
				default:
					b.put(i, api.Cell{})
				}
			}
			b.holds("P6.8: slots deleted")
			for _, n := range []int{want, 0} {
				if got, e := b.g.Prune(); got != n || e != api.OK {
					t.Fatalf("P6.9: Prune of the deleted slots %08b = %d, error %d, want %d", mask, got, e, n)
				}
				for i, c := range b.cells {
					if c.Kind == api.CellDeleted {
						b.cells[i] = api.Cell{}
					}
				}
				b.holds(fmt.Sprintf("P6.9: Prune of the deleted slots %08b", mask))
			}
		}
	}
}
