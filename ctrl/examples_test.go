package ctrl_test

import (
	"math"
	"slices"
	"testing"

	"larder/ctrl"
)

func TestExample1(t *testing.T) {
	for i, want := range map[int]int{0: 128, 1: 128, 2: 128, 3: 128, 4: 128, 5: 128, 6: 128, 7: 128, 8: -1, -1: -1} {
		if c := ctrl.Get(ctrl.Empty(), i); c != want {
			t.Errorf("Get(Empty(), %d) = %d, want %d", i, c, want)
		}
	}
}

func TestExample2(t *testing.T) {
	w := ctrl.Set(ctrl.Set(ctrl.Empty(), 0, 5), 2, 254)
	if w != 0x8080808080FE8005 {
		t.Fatalf("the word is %#x", w)
	}
	holds(t, ctrl.MatchEmpty(w), []int{1, 3, 4, 5, 6, 7}, "MatchEmpty", w)
	holds(t, ctrl.MatchVacant(w), []int{1, 2, 3, 4, 5, 6, 7}, "MatchVacant", w)
	holds(t, ctrl.MatchFull(w), []int{0}, "MatchFull", w)
	holds(t, ctrl.Match(w, 5), []int{0}, "Match of 5", w)
	holds(t, ctrl.Match(w, 126), nil, "Match of 126", w)
}

func TestExamples3And4(t *testing.T) {
	b := ctrl.Match(0x0706050403020100, 3)
	holds(t, b, []int{3}, "Match of 3", 0x0706050403020100)
	if b.First() != 3 || b.Count() != 1 || b.Rest().Count() != 0 || b.Rest().First() != 8 || (ctrl.Bits{}).First() != 8 {
		t.Errorf("First %d, Count %d, and of the rest %d and %d", b.First(), b.Count(), b.Rest().First(), b.Rest().Count())
	}
	holds(t, ctrl.Match(0x8080808080800100, 0), []int{0}, "Match of 0", 0x8080808080800100)
}

func TestExamples5And6(t *testing.T) {
	var odd uint64 = 0x81FDFF8080808080
	holds(t, ctrl.MatchEmpty(odd), []int{0, 1, 2, 3, 4}, "MatchEmpty", odd)
	holds(t, ctrl.MatchVacant(odd), []int{0, 1, 2, 3, 4}, "MatchVacant", odd)
	holds(t, ctrl.MatchFull(odd), nil, "MatchFull", odd)
	for w, want := range map[uint64]uint64{odd: odd, 0xFEFE0580FE800102: 0x8080058080800102} {
		if got := ctrl.Clear(w); got != want {
			t.Errorf("Clear(%#x) = %#x, want %#x", w, got, want)
		}
	}
}

func TestExample7(t *testing.T) {
	var w uint64 = 0x8080808080FE8005
	keeps(t, w, 8, 5)
	keeps(t, w, -1, 5)
	keeps(t, w, 0, 256)
	keeps(t, w, 0, -1)
	if got := ctrl.Set(w, 7, 255); got != 0xFF80808080FE8005 {
		t.Errorf("Set(w, 7, 255) = %#x", got)
	}
}

func TestExample8(t *testing.T) {
	for _, w := range words() {
		for _, tag := range []int{128, 254, -1} {
			holds(t, ctrl.Match(w, tag), nil, "Match of no tag", w)
		}
	}
}

func TestExample9(t *testing.T) {
	b := ctrl.MatchFull(0x8001800180800180)
	if got := slices.Collect(b.All()); !slices.Equal(got, []int{1, 4, 6}) {
		t.Fatalf("All gives %v", got)
	}
	holds(t, b.Rest(), []int{4, 6}, "Rest", 0)
	holds(t, b.Rest().Rest(), []int{6}, "Rest of Rest", 0)
	for i := range b.All() {
		if i == 4 {
			break
		}
	}
	holds(t, b, []int{1, 4, 6}, "the set behind a loop that stopped at 4", 0)
}

func TestExample10(t *testing.T) {
	holds(t, ctrl.MatchFull(0), []int{0, 1, 2, 3, 4, 5, 6, 7}, "MatchFull", 0)
	holds(t, ctrl.Match(0, 0), []int{0, 1, 2, 3, 4, 5, 6, 7}, "Match of 0", 0)
}

// TestNoCallPanics: every call, with the numbers at the ends of what there is and some between.
func TestNoCallPanics(t *testing.T) {
	numbers := slices.Concat(outside, noByte, noTag, []int{0, 1, 7, 126, 127})
	for _, w := range []uint64{0, 1, 1 << 63, ctrl.Empty(), 0xFEFEFEFEFEFEFEFE, 0x81FDFF8080808080, math.MaxUint64} {
		ctrl.Clear(w)
		for _, i := range numbers {
			b := ctrl.Match(w, i)
			for _, b := range []ctrl.Bits{b, b.Rest(), ctrl.MatchEmpty(w), ctrl.MatchVacant(w), ctrl.MatchFull(w)} {
				if n := b.First(); n < 0 || n > 8 || b.Count() < 0 || b.Count() > 8 || b.Has(i) && (i < 0 || i > 7) {
					t.Errorf("P5.8: at %d of %#016x: First %d, Count %d, Has %v", i, w, n, b.Count(), b.Has(i))
				}
			}
			if c := ctrl.Get(w, i); c < -1 || c > 255 {
				t.Errorf("P5.8: Get(%#016x, %d) = %d", w, i, c)
			}
			for _, c := range numbers {
				ctrl.Set(w, i, c)
			}
		}
	}
}
