package ctrl_test

import (
	"slices"
	"sync"
	"testing"

	"larder/ctrl"
)

// sets: all 256 of them, each made in four ways, with the slots that it holds.
func sets(call func(b ctrl.Bits, want []int)) {
	for mask := range 256 {
		w := ctrl.Empty()
		var want []int
		for i := range 8 {
			if mask>>i&1 == 1 {
				w = ctrl.Set(w, i, 9)
				want = append(want, i)
			}
		}
		turned := w ^ 0x8989898989898989 // 9 for 128, and 128 for 9
		for _, b := range []ctrl.Bits{ctrl.MatchFull(w), ctrl.Match(w, 9), ctrl.MatchEmpty(turned), ctrl.MatchVacant(turned)} {
			call(b, want)
		}
	}
}

func TestAllCallsSayTheSameSlots(t *testing.T) {
	sets(func(b ctrl.Bits, want []int) {
		holds(t, b, want, "P5.7: a set", 0)
		for i := range 8 {
			if b.Has(i) != slices.Contains(want, i) {
				t.Errorf("P5.7: Has(%d) = %v of %v", i, b.Has(i), want)
			}
		}
	})
}

func TestHasOutsideTheSlots(t *testing.T) {
	sets(func(b ctrl.Bits, want []int) {
		for _, i := range outside {
			if b.Has(i) {
				t.Errorf("P5.7: Has(%d) of %v", i, want)
			}
		}
	})
}

// TestRestLeavesTheSet: each Rest has one slot less, the set that it was asked of has all of its own.
func TestRestLeavesTheSet(t *testing.T) {
	sets(func(b ctrl.Bits, want []int) {
		left := b
		for n := range want {
			holds(t, left, want[n:], "P5.7: a rest", 0)
			left = left.Rest()
		}
		for range 3 {
			holds(t, left, nil, "P5.7: the rest of the empty set", 0)
			left = left.Rest()
		}
		holds(t, b, want, "P5.7: the set behind its rests", 0)
	})
}

func TestTheEmptySet(t *testing.T) {
	for _, b := range []ctrl.Bits{{}, ctrl.Bits{}.Rest(), ctrl.Match(0, 1), ctrl.Match(0, -1), ctrl.MatchFull(ctrl.Empty())} {
		holds(t, b, nil, "P5.7: the empty set", 0)
		all := b.All()
		if all == nil {
			t.Fatal("P5.7: All of the empty set is nil")
		}
		for range 2 {
			for i := range all {
				t.Errorf("P5.7: All of the empty set gives %d", i)
			}
		}
	}
}

// TestAllStopsAnywhere: one answer of All, left at each place, and ranged over whole behind each such loop.
func TestAllStopsAnywhere(t *testing.T) {
	sets(func(b ctrl.Bits, want []int) {
		all := b.All()
		if all == nil {
			t.Fatalf("P5.7: All of %v is nil", want)
		}
		for n := range want {
			if got := firstOf(all, n+1); !slices.Equal(got, want[:n+1]) {
				t.Errorf("P5.7: the first %d of %v: %v", n+1, want, got)
			}
			if got := slices.Collect(all); !slices.Equal(got, want) {
				t.Errorf("P5.7: All of %v, left at place %d: then %v", want, n, got)
			}
		}
		if got := slices.Collect(all); !slices.Equal(got, want) {
			t.Errorf("P5.7: All of %v, once more: %v", want, got)
		}
		holds(t, b, want, "P5.7: the set behind the loops", 0)
	})
}

// firstOf: a loop that stops at the n-th slot. (One that goes on behind a break panics.)
func firstOf(all func(func(int) bool), n int) []int {
	var l []int
	for i := range all {
		l = append(l, i)
		if len(l) == n {
			break
		}
	}
	return l
}

// TestAllWithinItself: one answer, ranged over inside a loop over it.
func TestAllWithinItself(t *testing.T) {
	sets(func(b ctrl.Bits, want []int) {
		all := b.All()
		var outer []int
		for i := range all {
			outer = append(outer, i)
			if got := slices.Collect(all); !slices.Equal(got, want) {
				t.Errorf("W9: All of %v within itself: %v", want, got)
			}
			firstOf(all, 1)
		}
		if !slices.Equal(outer, want) {
			t.Errorf("W9: All of %v around itself: %v", want, outer)
		}
	})
}

// TestSetsHaveNothingInCommon: of two sets with a copy each, what is asked of one is not to be seen in the others.
func TestSetsHaveNothingInCommon(t *testing.T) {
	a, b := ctrl.MatchFull(0x8001808002808003), ctrl.MatchEmpty(0x8001808002808003)
	same := a
	allA, allB := a.All(), b.All()
	firstOf(allA, 2)
	a = a.Rest()
	holds(t, a, []int{3, 6}, "W2: the rest", 0)
	holds(t, same, []int{0, 3, 6}, "W2: the copy", 0)
	holds(t, b, []int{1, 2, 4, 5, 7}, "W2: the other set", 0)
	if x, y := slices.Collect(allA), slices.Collect(allB); !slices.Equal(x, []int{0, 3, 6}) || !slices.Equal(y, []int{1, 2, 4, 5, 7}) {
		t.Errorf("W2: All asked of two sets ahead of it: %v and %v", x, y)
	}
}

// TestAllFromManySides: one answer, ranged over by many at a time.
func TestAllFromManySides(t *testing.T) {
	want := []int{0, 3, 6}
	all := ctrl.MatchFull(0x8001808002808003).All()
	var w sync.WaitGroup
	for range 8 {
		w.Go(func() {
			for range 100 {
				if got := slices.Collect(all); !slices.Equal(got, want) {
					t.Errorf("P5.7: All gives %v, want %v", got, want)
					return
				}
			}
		})
	}
	w.Wait()
}
