package ctrl

import (
	"iter"
	"math/bits"
)

// Bits: a set of slots.
type Bits struct {
	high uint64 // the high bit of a slot's byte: the slot is in the set; no other bit is ever 1
}

// First: the lowest slot; 8: there is none.
func (b Bits) First() int { return bits.TrailingZeros64(b.high) / 8 }

// Rest: the set without its lowest slot.
func (b Bits) Rest() Bits { return Bits{b.high & (b.high - 1)} }

// Has: is slot i in it?
func (b Bits) Has(i int) bool {
	return isSlot(i) && b.high>>(8*i+7)&1 == 1
}

// Count: how many there are.
func (b Bits) Count() int { return bits.OnesCount64(b.high) }

// All: the slots, in rising order.
func (b Bits) All() iter.Seq[int] {
	return func(yield func(int) bool) {
		// The loop goes on with sets of its own: b is as it was when the next one begins.
		for left := b; left.Count() > 0; left = left.Rest() {
			if !yield(left.First()) {
				return
			}
		}
	}
}
