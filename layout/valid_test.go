package layout_test

import (
	"testing"

	"larder/api"
	"larder/layout"
)

// given: all layouts that some raw descriptor gives, by the chapter's words.
func given() map[api.Layout]struct{} {
	all := make(map[api.Layout]struct{}, 410_000)
	for _, c := range caps {
		for f := range right(c) {
			l, _ := told(f[0], f[1], f[2], f[3], f[4])
			all[l] = struct{}{}
		}
	}
	return all
}

// others: what a number of a layout may be changed to: near it, like its neighbours, edges.
func others(n int) []int {
	return []int{n - 8, n - 1, n + 1, n + 8, 2 * n, n / 2, -n, 0, 1, 2, 4, 8, 16, 64, 128, 129, 1024, 2048}
}

func TestOneNumberChanged(t *testing.T) {
	all, held, kept := given(), 0, [9]int{}
	for f := range right(64) {
		l := parse(t, f[:]...)
		for i, n := range numbers(l) {
			for _, other := range others(n) {
				changed := numbers(l)
				changed[i] = other
				m := lay(changed)
				_, want := all[m]
				if got := layout.Valid(m); got != want {
					t.Fatalf("P3.3: Valid(%v) = %v, want %v (%s was %d)", m, got, want, names[i], n)
				}
				held++
				if want && other != n {
					kept[i]++
				}
			}
		}
	}
	if held < 1_000_000 {
		t.Errorf("only %d layouts were held against the words", held)
	}
	for i := range kept { // the last four hang on the first five
		if (kept[i] > 0) != (i < 5) {
			t.Errorf("P3.3: %d layouts are given with another %s", kept[i], names[i])
		}
	}
}

func TestOneNumberFarOff(t *testing.T) {
	for _, f := range [][]int{{1, 0, 1, 1, 16}, {5, 4, 1, 4, 64}, {8, 0, 8, 8, 1024}, {128, 128, 8, 8, 1024}} {
		l := parse(t, f...)
		for i := range 9 {
			for _, n := range far {
				changed := numbers(l)
				changed[i] = n
				unsound(t, lay(changed))
			}
		}
	}
}

func TestManyNumbersWrong(t *testing.T) {
	unsound(t, api.Layout{})
	for _, n := range append([]int{-1, 0, 1, 8, 16}, far...) {
		unsound(t, lay([9]int{n, n, n, n, n, n, n, n, n}))
		unsound(t, lay([9]int{5, 4, 1, 4, 64, n, n, n, n}))
		unsound(t, lay([9]int{n, n, n, n, n, 8, 16, 24, 200}))
	}
	unsound(t, lay([9]int{5, 4, 1, 4, 64, 5, 16, 24, 200}))  // the elem right behind the key
	unsound(t, lay([9]int{5, 4, 1, 4, 64, 8, 12, 20, 168}))  // the birth right behind the elem
	unsound(t, lay([9]int{5, 4, 1, 4, 64, 16, 24, 32, 264})) // a gap that is a whole alignment longer
	unsound(t, lay([9]int{5, 4, 1, 4, 64, 8, 24, 32, 264}))
	unsound(t, lay([9]int{5, 4, 1, 4, 64, 8, 16, 24, 192})) // no control word
	unsound(t, lay([9]int{6, 0, 4, 1, 16, 6, 8, 16, 136}))  // laid by the rule, but its descriptor is refused
	unsound(t, lay([9]int{129, 0, 1, 1, 16, 129, 136, 144, 1160}))
	unsound(t, lay([9]int{0, 0, 1, 1, 16, 0, 0, 8, 72}))
	unsound(t, lay([9]int{8, 8, 8, 16, 16, 16, 24, 32, 264}))
	unsound(t, lay([9]int{8, 8, 8, 8, 24, 8, 16, 24, 200}))
}

// unsound: l is not valid, and no call counts with it.
func unsound(t *testing.T, l api.Layout) {
	t.Helper()
	if layout.Valid(l) {
		t.Errorf("P3.3: %v is taken for valid", l)
	}
	for i := range 8 {
		if k, e, b := layout.KeyAt(l, i), layout.ElemAt(l, i), layout.BirthAt(l, i); k != -1 || e != -1 || b != -1 {
			t.Errorf("P3.4: slot %d of %v: %d, %d, %d, want -1 of each", i, l, k, e, b)
		}
	}
	for _, slots := range tables {
		if n := layout.Groups(l, slots); n != -1 {
			t.Errorf("P3.5: Groups(%v, %d) = %d, want -1", l, slots, n)
		}
	}
}
