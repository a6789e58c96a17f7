package layout_test

import (
	"math"
	"slices"
	"testing"

	"larder/api"
	"larder/layout"
)

func TestFieldsAreFive(t *testing.T) {
	ok := []int{8, 8, 8, 8, 16, 16, 16, 16}
	wrong := []int{0, -1, 3, 3, 3, 3, 3, 3}
	for n := range 9 {
		if n != 5 {
			refuses(t, api.ErrFields, ok[:n]...)
			refuses(t, api.ErrFields, wrong[:n]...)
		}
	}
	refuses(t, api.ErrFields)
	refuses(t, api.ErrFields, nil...)
	refuses(t, api.ErrFields, make([]int, 1<<16)...)
	parse(t, ok[:5]...)
}

func TestKeyWidth(t *testing.T) {
	for _, k := range append([]int{-128, -8, -1, 0, 129, 136, 256}, far...) {
		refuses(t, api.ErrKey, k, 0, 1, 1, 16)
		refuses(t, api.ErrKey, k, -1, 3, 3, 17)
		refuses(t, api.ErrKey, k, 129, 1, 1, 16)
		refuses(t, api.ErrKey, k, 0, k, k, k)
	}
	for _, k := range []int{1, 2, 127, 128} {
		if l := parse(t, k, 0, 1, 1, 16); l.Key != k {
			t.Errorf("P3.2: a key of width %d: %v", k, l)
		}
	}
}

func TestElemWidth(t *testing.T) {
	for _, e := range append([]int{-128, -8, -1, 129, 136, 256}, far...) {
		refuses(t, api.ErrElem, 1, e, 1, 1, 16)
		refuses(t, api.ErrElem, 128, e, 3, 0, 17)
		refuses(t, api.ErrElem, 7, e, 8, 1, 0)
		refuses(t, api.ErrElem, 1, e, e, e, e)
	}
	for _, n := range []int{0, 1, 127, 128} {
		if l := parse(t, 1, n, 1, 1, 16); l.Elem != n {
			t.Errorf("P3.2: an elem of width %d: %v", n, l)
		}
	}
}

func TestAlignments(t *testing.T) {
	for _, a := range append([]int{-8, -4, -2, -1, 0, 3, 5, 6, 7, 9, 12, 16, 32, 64, 128}, far...) {
		refuses(t, api.ErrAlign, 128, 128, a, 1, 16)
		refuses(t, api.ErrAlign, 128, 128, 1, a, 16)
		refuses(t, api.ErrAlign, 128, 0, 8, a, 16)
		refuses(t, api.ErrAlign, 120, 120, a, a, 17)
	}
	for _, a := range aligns {
		for w := 1; w <= 128; w++ {
			for _, c := range []int{16, 17, 8, 0} { // an alignment goes ahead of a cap
				if w%a != 0 {
					refuses(t, api.ErrAlign, w, 0, a, 1, c)
					refuses(t, api.ErrAlign, 8, w, 8, a, c)
				}
			}
			if w%a == 0 {
				parse(t, w, 0, a, 1, 16)
				parse(t, 8, w, 8, a, 16)
			}
		}
		parse(t, 8, 0, 8, a, 16) // 0 is a multiple of each
	}
}

func TestCaps(t *testing.T) {
	for c := -16; c <= 4096; c++ {
		if slices.Contains(caps, c) {
			if l := parse(t, 6, 6, 2, 2, c); l.Cap != c {
				t.Errorf("P3.2: a cap of %d: %v", c, l)
			}
		} else {
			refuses(t, api.ErrCap, 6, 6, 2, 2, c)
		}
	}
	for n := 12; n < 63; n++ {
		refuses(t, api.ErrCap, 6, 6, 2, 2, 1<<n)
		refuses(t, api.ErrCap, 6, 6, 2, 2, -1<<n)
	}
	for _, c := range far {
		refuses(t, api.ErrCap, 1, 0, 1, 1, c)
	}
}

// TestEveryMixture: right and wrong numbers at all five places, in every mixture, so that the order of the refusals is seen whole.
func TestEveryMixture(t *testing.T) {
	ends := []int{math.MinInt, math.MaxInt, -1, 0, 1}
	widths := append([]int{2, 4, 5, 6, 8, 12, 127, 128, 129}, ends...)
	alignments := append([]int{2, 3, 4, 6, 8, 16}, ends...)
	limits := append([]int{8, 15, 16, 17, 24, 48, 64, 512, 1023, 1024, 1025, 2048}, ends...)
	for _, k := range widths {
		for _, e := range widths {
			for _, a := range alignments {
				for _, b := range alignments {
					for _, c := range limits {
						l, err := layout.Parse(k, e, a, b, c)
						want, wantErr := told(k, e, a, b, c)
						if l != want || err != wantErr {
							t.Fatalf("P3.1, P3.2: Parse(%d, %d, %d, %d, %d) = %v, error %d, want %v, error %d", k, e, a, b, c, l, err, want, wantErr)
						}
					}
				}
			}
		}
	}
}

func TestEveryRightDescriptor(t *testing.T) {
	for _, c := range caps {
		for f := range right(c) {
			l, e := layout.Parse(f[:]...)
			want, _ := told(f[0], f[1], f[2], f[3], f[4])
			if l != want || e != api.OK {
				t.Fatalf("P3.2: Parse(%v) = %v, error %d, want %v", f, l, e, want)
			}
			if !layout.Valid(l) {
				t.Fatalf("P3.3: %v is not valid", l)
			}
		}
	}
}

// TestListIsLeftAlone (W3): the list is neither changed nor kept, and what lies behind it is not looked at.
func TestListIsLeftAlone(t *testing.T) {
	for n := range 9 {
		whole := []int{5, 4, 1, 4, 64, 0, -1, 3}
		was := slices.Clone(whole)
		l, e := layout.Parse(whole[:n]...)
		if !slices.Equal(whole, was) {
			t.Errorf("W3: Parse of %d numbers leaves %v of %v", n, whole, was)
		}
		if (e == api.OK) != (n == 5) {
			t.Errorf("P3.1: Parse(%v): error %d", whole[:n], e)
		}
		before := l
		clear(whole)
		if l != before || layout.Valid(l) != (n == 5) {
			t.Errorf("W3: the layout %v has turned into %v with its list", before, l)
		}
	}
}

// TestNothingIsKept (W2): a refused call leaves no trace, and a call answers as it did before.
func TestNothingIsKept(t *testing.T) {
	first := parse(t, 5, 4, 1, 4, 64)
	refuses(t, api.ErrAlign, 6, 6, 0, 1, 16)
	refuses(t, api.ErrCap, 128, 128, 8, 8, 2048)
	if again := parse(t, 5, 4, 1, 4, 64); again != first {
		t.Errorf("W2: Parse answers %v, and %v behind other calls", first, again)
	}
}
