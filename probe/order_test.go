package probe_test

import (
	"iter"
	"slices"
	"sync"
	"testing"

	"larder/probe"
)

func TestOrderToItsEnd(t *testing.T) {
	for _, groups := range groupNumbers {
		for _, home := range homes {
			want := ordered(home, groups)
			order := probe.Order(home, groups)
			if order == nil {
				t.Fatalf("P7.4: Order(%d, %d) is nil", home, groups)
			}
			for time := range 3 {
				if got := slices.Collect(order); !slices.Equal(got, want) {
					t.Fatalf("P7.4: Order(%d, %d), time %d: %v, want %v", home, groups, time, got, want)
				}
			}
		}
	}
}

// TestOrderLeftAtEachPlace: the function is called as it is, so that a group given behind the last one asked for would be counted.
func TestOrderLeftAtEachPlace(t *testing.T) {
	for _, groups := range groupNumbers {
		for i, home := range homes {
			if groups > 512 && i%9 != 0 {
				continue
			}
			want := ordered(home, groups)
			order := probe.Order(home, groups)
			for leave := range groups {
				given, like := 0, true
				order(func(g int) bool {
					like = like && given <= leave && g == want[given]
					given++
					return given <= leave
				})
				if !like || given != leave+1 {
					t.Fatalf("P7.4: Order(%d, %d), left at its place %d: %d are given, in order: %v", home, groups, leave, given, like)
				}
			}
			if got := slices.Collect(order); !slices.Equal(got, want) {
				t.Fatalf("P7.4: Order(%d, %d), after being left: %v, want %v", home, groups, got, want)
			}
		}
	}
}

func TestOrderWithinItself(t *testing.T) {
	for _, groups := range []int{1, 2, 4, 8, 64} {
		for _, home := range homes {
			want := ordered(home, groups)
			order := probe.Order(home, groups)
			var outer []int
			for g := range order {
				outer = append(outer, g)
				var inner []int
				for h := range order {
					inner = append(inner, h)
				}
				if !slices.Equal(inner, want) {
					t.Fatalf("P7.4: Order(%d, %d), within itself at group %d: %v, want %v", home, groups, g, inner, want)
				}
				for range order {
					break
				}
			}
			if !slices.Equal(outer, want) {
				t.Fatalf("P7.4: Order(%d, %d), around itself: %v, want %v", home, groups, outer, want)
			}
		}
	}
}

// TestOrderByTwoInTurn: two go through one answer, the second a step behind the first.
func TestOrderByTwoInTurn(t *testing.T) {
	for _, groups := range []int{1, 8, 8192} {
		order := probe.Order(77, groups)
		first, stopFirst := iter.Pull(order)
		second, stopSecond := iter.Pull(order)
		first()
		for n, want := range ordered(77, groups) {
			if g, ok := second(); g != want || !ok {
				t.Fatalf("P7.4: the second of two has %d, %v at step %d of %d, want %d", g, ok, n, groups, want)
			}
			if g, ok := first(); ok != (n+1 < groups) || ok && g != probe.At(77, groups, n+1) {
				t.Fatalf("P7.4: the first of two has %d, %v at step %d of %d", g, ok, n+1, groups)
			}
		}
		if g, ok := second(); ok {
			t.Errorf("P7.4: behind the last of %d groups there is %d", groups, g)
		}
		stopFirst()
		stopSecond()
	}
}

func TestOrderBySeveralAtOnce(t *testing.T) {
	for _, groups := range []int{1, 8, 8192} {
		order := probe.Order(12345, groups)
		var got [8][]int
		var all sync.WaitGroup
		for i := range got {
			all.Add(1)
			go func() {
				defer all.Done()
				got[i] = slices.Collect(order)
			}()
		}
		all.Wait()
		want := ordered(12345, groups)
		for i, l := range got {
			if !slices.Equal(l, want) {
				t.Errorf("P7.4: number %d of several at once has %d of %d groups, or another order", i, len(l), groups)
			}
		}
	}
}

// TestOrdersAreApart: two answers, gone through in turn, know nothing of each other.
func TestOrdersAreApart(t *testing.T) {
	a, b := probe.Order(3, 8), probe.Order(6, 16)
	for range 2 {
		if got := slices.Collect(a); !slices.Equal(got, ordered(3, 8)) {
			t.Errorf("P7.4: Order(3, 8) beside Order(6, 16): %v", got)
		}
		if got := slices.Collect(b); !slices.Equal(got, ordered(6, 16)) {
			t.Errorf("P7.4: Order(6, 16) beside Order(3, 8): %v", got)
		}
	}
}

func TestOrderOfNoNumberOfGroups(t *testing.T) {
	for _, groups := range noGroups {
		for _, home := range homes {
			order := probe.Order(home, groups)
			if order == nil {
				t.Fatalf("P7.4: Order(%d, %d) is nil", home, groups)
			}
			for range 2 {
				for g := range order {
					t.Errorf("P7.4: Order(%d, %d) gives %d, want nothing", home, groups, g)
					break
				}
			}
		}
	}
}
