package ctrl_test

import (
	"testing"

	"larder/ctrl"
)

func TestMatchesOfManyWords(t *testing.T) {
	for _, w := range words() {
		matches(t, w)
	}
}

// TestMatchesOfNeighbours: every two bytes beside each other, at each place, among others of each kind.
func TestMatchesOfNeighbours(t *testing.T) {
	for _, other := range []int{0, 128, 254} {
		pairs(other, func(w uint64, _, _ int) { matches(t, w) })
	}
}

func TestMatchOfEveryTag(t *testing.T) {
	for _, w := range words()[:1500] {
		for tag := range 128 {
			tagged(t, w, tag)
		}
	}
}

// TestMatchOfNeighbours: Match of either of two neighbours, and of the tags that differ from them by one.
func TestMatchOfNeighbours(t *testing.T) {
	pairs(128, func(w uint64, low, high int) {
		for _, c := range []int{low, high} {
			for _, tag := range []int{c - 1, c, c + 1} {
				if tag >= 0 && tag <= 127 {
					tagged(t, w, tag)
				}
			}
		}
	})
}

// TestMatchIsNotFooledByABorrow: all words of the tag, the byte above it and the byte below it, for every tag: so every run of greater bytes above an equal one.
func TestMatchIsNotFooledByABorrow(t *testing.T) {
	for tag := range 128 {
		near := [3]int{tag, tag + 1, (tag + 255) % 256}
		for n := range 6561 {
			var b [8]int
			for i := range b {
				b[i] = near[n%3]
				n /= 3
			}
			tagged(t, joined(b), tag)
		}
	}
}

// TestMatchLooksAtTheHighBit: a byte with a tag's low seven bits that is no tag's byte.
func TestMatchLooksAtTheHighBit(t *testing.T) {
	for tag := range 128 {
		for mask := range 256 {
			var b [8]int
			for i := range b {
				b[i] = tag + mask>>i&1*128
			}
			tagged(t, joined(b), tag)
		}
	}
}

func TestMatchOutsideTheTags(t *testing.T) {
	for _, w := range words() {
		for _, tag := range noTag {
			if b := ctrl.Match(w, tag); b.Count() != 0 || b.First() != 8 {
				t.Fatalf("P5.4: Match(%#016x, %d) has %d slots, want none", w, tag, b.Count())
			}
		}
	}
}

// TestOddBytesAreInNoSet: each odd byte, in each slot, beside empty, deleted and full ones.
func TestOddBytesAreInNoSet(t *testing.T) {
	for i := range 8 {
		for c := 129; c < 256; c++ {
			if c == 254 {
				continue
			}
			w := ctrl.Set(0x8005FE7F80FE0080, i, c)
			if ctrl.MatchEmpty(w).Has(i) || ctrl.MatchVacant(w).Has(i) || ctrl.MatchFull(w).Has(i) || ctrl.Match(w, c).Has(i) || ctrl.Match(w, c-128).Has(i) {
				t.Errorf("P5.5: the byte %d of %#016x is in a set", c, w)
			}
			matches(t, w)
		}
	}
}

// TestFullIsTheUnionOfTheTags: a slot is full just if it is in the set of one tag, and then of one alone.
func TestFullIsTheUnionOfTheTags(t *testing.T) {
	for _, w := range words()[:600] {
		var in [8]int
		for tag := range 128 {
			for i := range ctrl.Match(w, tag).All() {
				in[i]++
			}
		}
		for i, n := range in {
			if n > 1 || (n == 1) != ctrl.MatchFull(w).Has(i) {
				t.Fatalf("P5.4, P5.5: slot %d of %#016x is in the sets of %d tags, full: %v", i, w, n, ctrl.MatchFull(w).Has(i))
			}
		}
	}
}
