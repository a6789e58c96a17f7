package small_test

import (
	"math"
	"testing"

	"larder/api"
)

// pin: Pin must answer OK, and the pins be so many more.
func (b *bench) pin(by int) {
	b.t.Helper()
	b.p.pins += by
	if n, e := b.s.Pin(by); n != b.p.pins || e != api.OK {
		b.t.Fatalf("P11.8: Pin(%d) = %d, error %d, want %d", by, n, e, b.p.pins)
	}
	b.stat("P11.8: Pin")
}

// TestPinBounds: both bounds of the pins, and a step past each.
func TestPinBounds(t *testing.T) {
	const high = 1 << 62
	for _, filled := range fillings {
		b := set(t, descriptors[3])
		b.fill(filled)
		for _, pins := range []int{0, 1, 2, 1 << 32, high / 2, high - 1, high} {
			b.pin(pins - b.p.pins)
			for _, by := range []int{-pins - 1, -pins - 2, high - pins + 1, high - pins + 2, high + 1, -high - 1, math.MaxInt, math.MaxInt - pins, math.MinInt, math.MinInt + 1} {
				b.refuses("Pin", args{n: by}, api.ErrPins)
			}
			b.pin(0)
			b.pin(-pins)
			b.pin(high)
			b.pin(-high)
			b.pin(pins)
			b.holds("P11.8: Pin at both bounds")
		}
	}
}

// nexts: the least and the greatest int, and numbers that are no block's offset.
var nexts = []int{0, 1, 16, 80, -1, -16, 1 << 32, -1 << 32, 0x0102030405060708, math.MaxInt, math.MaxInt - 1, math.MinInt, math.MinInt + 1}

// TestSetNextKeepsTheKind: ahead of Retire and behind it.
func TestSetNextKeepsTheKind(t *testing.T) {
	for _, filled := range fillings {
		b := set(t, descriptors[1])
		b.fill(filled)
		b.pin(3)
		for _, b.p.next = range nexts {
			answers(t, "P11.8: SetNext", b.s.SetNext(b.p.next), api.OK)
			b.holds("P11.8: SetNext")
		}
		for _, b.p.next = range nexts {
			answers(t, "P11.8: Retire", b.s.Retire(b.p.next), api.OK)
			b.p.kind = 3
			b.holds("P11.8: Retire")
		}
		for _, b.p.next = range nexts {
			answers(t, "P11.8: SetNext of a retired one", b.s.SetNext(b.p.next), api.OK)
			b.holds("P11.8: SetNext of a retired one")
		}
	}
}

// TestARetiredOneAnswersAsBefore: all calls, those that are refused too.
func TestARetiredOneAnswersAsBefore(t *testing.T) {
	o := ask(t)
	benches(t, func(b *bench) {
		answers(t, "P11.8: Retire", b.s.Retire(-7), api.OK)
		b.p.kind, b.p.next = 3, -7
		b.fill(8)
		b.pin(5)
		b.put(9, 99, 1, 0)
		b.put(0, 1, 77, 0)
		b.drop(6)
		b.holds("P11.8: a retired one")
		b.refuses("Put", args{tag: 128, key: text(b.l.Key, 1), elem: text(b.l.Elem, 1)}, api.ErrTag)
		b.refuses("Cell", args{n: 8}, api.ErrSlot)
		b.refuses("Pin", args{n: -6}, api.ErrPins)
		b.promotes("P11.8: Promote of a retired one", o, 3)
		answers(t, "P11.9: Free of a retired one, with pins", b.s.Free(), api.OK)
		b.refuses("Stat", args{}, api.ErrDead)
	})
}
