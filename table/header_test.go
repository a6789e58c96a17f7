package table_test

import (
	"math"
	"testing"

	"larder/api"
)

// addLeft: AddLeft must answer OK, and the room be so much more.
func (b *bench) addLeft(n int) {
	b.t.Helper()
	answers(b.t, "P8.12: AddLeft", b.tb.AddLeft(n), api.OK)
	b.p.left += n
	b.stat("P8.12: AddLeft")
}

// roomBounds: both bounds of the room, and a step past each; at its end the room is as great as it may be.
func (b *bench) roomBounds() {
	b.t.Helper()
	top := b.p.room()
	for _, left := range []int{0, top / 2, top} {
		b.addLeft(left - b.p.left)
		for _, n := range []int{-left - 1, -left - 2, top - left + 1, top - left + 2, most[len(b.p.cells)] + 1, -most[len(b.p.cells)] - 1, 1 << 32, -1 << 32, math.MaxInt, math.MaxInt - left, math.MinInt, math.MinInt + left} {
			refuses(b.t, named("AddLeft"), b.tb, args{n: n}, api.ErrRoom)
		}
		b.addLeft(0)
		b.addLeft(-left)
		b.addLeft(top)
		b.addLeft(-top)
		b.addLeft(left)
		b.holds("P8.12: AddLeft at both bounds")
	}
}

// TestAddLeftBounds: in an empty table, one with deleted slots, one that is full.
func TestAddLeftBounds(t *testing.T) {
	benches(t, func(b *bench) {
		b.roomBounds()
		b.crowd()
		b.roomBounds()
		for i := 0; b.p.left > 0; i++ {
			b.put(hash(uint64(i), 9), 100+i, 1, i)
		}
		b.roomBounds()
	})
}

// TestDeletedSlotsCountAgainstTheRoom: a table of 16 slots with 4 full, 5 deleted, 7 empty: the room is at most 14 less 9.
func TestDeletedSlotsCountAgainstTheRoom(t *testing.T) {
	b := set(t, descriptors[0], 16, 0)
	for i := range 9 {
		b.put(hash(0, 5), 1+i, 2, i)
	}
	for i := range 5 {
		b.delete(hash(0, 5), 1+i)
	}
	counts(t, b.tb, 4, 5)
	answers(t, "P8.12: AddLeft(1)", b.tb.AddLeft(1), api.ErrRoom)
	g, e := b.tb.Group(0)
	answers(t, "Group", e, api.OK)
	if n, e := g.Prune(); n != 5 || e != api.OK {
		t.Fatalf("Prune = %d, error %d", n, e)
	}
	answers(t, "P8.12: AddLeft(6) behind a prune of 5", b.tb.AddLeft(6), api.ErrRoom)
	answers(t, "P8.12: AddLeft(5) behind a prune of 5", b.tb.AddLeft(5), api.OK)
	counts(t, b.tb, 4, 10)
	answers(t, "P8.12: AddLeft(1) again", b.tb.AddLeft(1), api.ErrRoom)
}

// TestARoomMadeLess: with the room 0 and empty slots all the same, only deleted slots are taken; a delete adds to the room.
func TestARoomMadeLess(t *testing.T) {
	b := set(t, descriptors[3], 16, 0)
	for i := range 9 {
		b.put(hash(0, 5), 1+i, 2, i)
	}
	b.addLeft(-5)
	if out := b.put(hash(1, 5), 50, 2, 0); out != api.PutNoRoom {
		t.Fatalf("P8.7: Put with the room 0: %d", out)
	}
	b.delete(hash(0, 5), 3)
	counts(t, b.tb, 8, 0)
	if out := b.put(hash(1, 5), 50, 2, 0); out != api.PutNoRoom {
		t.Fatalf("P8.7: Put into group 1, where a deleted slot is in group 0 alone: %d", out)
	}
	if out := b.put(hash(0, 5), 50, 2, 0); out != api.PutAdded {
		t.Fatalf("P8.7: Put into a deleted slot with the room 0: %d", out)
	}
	b.delete(hash(0, 5), 9)
	counts(t, b.tb, 8, 1)
	if out := b.put(hash(1, 5), 51, 2, 0); out != api.PutAdded {
		t.Fatalf("P8.7: Put with the room 1: %d", out)
	}
	b.holds("P8.12: a room made less")
}

// pin: Pin must answer OK, and the pins be so many more.
func (b *bench) pin(by int) {
	b.t.Helper()
	b.p.pins += by
	if n, e := b.tb.Pin(by); n != b.p.pins || e != api.OK {
		b.t.Fatalf("P8.13: Pin(%d) = %d, error %d, want %d", by, n, e, b.p.pins)
	}
	b.stat("P8.13: Pin")
}

// TestPinBounds: both bounds of the pins, and a step past each.
func TestPinBounds(t *testing.T) {
	const high = 1 << 62
	for _, slots := range sizes {
		b := set(t, descriptors[0], slots, 0)
		b.crowd()
		for _, pins := range []int{0, 1, 2, 1 << 32, high / 2, high - 1, high} {
			b.pin(pins - b.p.pins)
			for _, by := range []int{-pins - 1, -pins - 2, high - pins + 1, high - pins + 2, high + 1, -high - 1, math.MaxInt, math.MaxInt - pins, math.MinInt, math.MinInt + 1} {
				refuses(t, named("Pin"), b.tb, args{n: by}, api.ErrPins)
			}
			b.pin(0)
			b.pin(-pins)
			b.pin(high)
			b.pin(-high)
			b.pin(pins)
			b.holds("P8.13: Pin at both bounds")
		}
	}
}

// nexts: the least and the greatest int, and numbers that are no block's offset.
var nexts = []int{0, 1, 16, 80, -1, -16, 1 << 32, -1 << 32, 0x0102030405060708, math.MaxInt, math.MaxInt - 1, math.MinInt, math.MinInt + 1}

func TestSetNextKeepsTheKind(t *testing.T) {
	for _, slots := range sizes {
		b := set(t, descriptors[1], slots, 0)
		b.crowd()
		b.pin(3)
		for _, b.p.next = range nexts {
			answers(t, "P8.13: SetNext", b.tb.SetNext(b.p.next), api.OK)
			b.holds("P8.13: SetNext")
		}
		for _, b.p.next = range nexts {
			answers(t, "P8.13: Retire", b.tb.Retire(b.p.next), api.OK)
			b.p.kind = 4
			b.holds("P8.13: Retire")
		}
		for _, b.p.next = range nexts {
			answers(t, "P8.13: SetNext of a retired one", b.tb.SetNext(b.p.next), api.OK)
			b.holds("P8.13: SetNext of a retired one")
		}
	}
}

// TestRetiredTableAnswersAsBefore: all calls, Put and Delete too.
func TestRetiredTableAnswersAsBefore(t *testing.T) {
	benches(t, func(b *bench) {
		answers(t, "P8.13: Retire", b.tb.Retire(-7), api.OK)
		b.p.kind, b.p.next = 4, -7
		b.crowd()
		b.pin(5)
		b.addLeft(-b.p.left)
		b.addLeft(b.p.room())
		for i := 0; b.p.left > 0; i++ {
			b.put(hash(uint64(i), 9), 100+i, 1, i)
		}
		b.put(hash(0, 99), 210, 1, 0)
		b.holds("P8.13: a retired table, filled up")
		answers(t, "P8.14: Free of a retired one, with pins", b.tb.Free(), api.OK)
	})
}
