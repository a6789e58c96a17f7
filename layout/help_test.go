package layout_test

import (
	"iter"
	"math"
	"slices"
	"testing"

	"larder/api"
	"larder/layout"
)

// Written out, so that a wrong rule is not held against itself.
var (
	aligns = []int{1, 2, 4, 8}
	caps   = []int{16, 32, 64, 128, 256, 512, 1024}
	tables = []int{8, 16, 32, 64, 128, 256, 512, 1024, 2048, 4096, 8192, 16384, 32768, 65536}
)

// far: numbers that are in range nowhere, at the ends of what an int can be.
var far = []int{math.MinInt, math.MinInt + 1, math.MinInt + 8, -1 << 62, 1 << 62, math.MaxInt - 7, math.MaxInt - 1, math.MaxInt}

// lay: a layout by its nine numbers, in their order.
func lay(n [9]int) api.Layout {
	return api.Layout{Key: n[0], Elem: n[1], KeyAlign: n[2], ElemAlign: n[3], Cap: n[4], ElemOff: n[5], BirthOff: n[6], Slot: n[7], Group: n[8]}
}

// numbers: a layout's nine numbers.
func numbers(l api.Layout) [9]int {
	return [9]int{l.Key, l.Elem, l.KeyAlign, l.ElemAlign, l.Cap, l.ElemOff, l.BirthOff, l.Slot, l.Group}
}

// names: those of a layout's nine numbers.
var names = [9]string{"Key", "Elem", "KeyAlign", "ElemAlign", "Cap", "ElemOff", "BirthOff", "Slot", "Group"}

// raised: x raised to a, by counting.
func raised(x, a int) int {
	n := 0
	for n < x {
		n += a
	}
	return n
}

// told: what the chapter says of Parse at five numbers.
func told(k, e, a, b, c int) (api.Layout, api.Errno) {
	if k < 1 || k > 128 {
		return api.Layout{}, api.ErrKey
	}
	if e < 0 || e > 128 {
		return api.Layout{}, api.ErrElem
	}
	if !slices.Contains(aligns, a) || k%a != 0 || !slices.Contains(aligns, b) || e%b != 0 {
		return api.Layout{}, api.ErrAlign
	}
	if !slices.Contains(caps, c) {
		return api.Layout{}, api.ErrCap
	}
	elem := raised(k, b)
	birth := raised(elem+e, 8)
	return lay([9]int{k, e, a, b, c, elem, birth, birth + 8, 8 + 8*(birth+8)}), api.OK
}

// right: all right descriptors of one cap.
func right(c int) iter.Seq[[5]int] {
	return func(yield func([5]int) bool) {
		for k := 1; k <= 128; k++ {
			for e := 0; e <= 128; e++ {
				for _, a := range aligns {
					for _, b := range aligns {
						if k%a == 0 && e%b == 0 && !yield([5]int{k, e, a, b, c}) {
							return
						}
					}
				}
			}
		}
	}
}

// parse: the layout of a descriptor that is right.
func parse(t *testing.T, fields ...int) api.Layout {
	t.Helper()
	l, e := layout.Parse(fields...)
	if e != api.OK {
		t.Fatalf("P3.2: Parse(%v): error %d", fields, e)
	}
	return l
}

// refuses: Parse answers this error, and a layout of zeros.
func refuses(t *testing.T, want api.Errno, fields ...int) {
	t.Helper()
	if l, e := layout.Parse(fields...); l != (api.Layout{}) || e != want {
		t.Errorf("P3.1: Parse(%v) = %v, error %d, want zeros, error %d", fields, l, e, want)
	}
}
