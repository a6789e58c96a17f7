package layout_test

import (
	"testing"

	"larder/api"
	"larder/layout"
)

func TestExamplesOfParse(t *testing.T) {
	for _, want := range [][9]int{
		{1, 0, 1, 1, 16, 1, 8, 16, 136},
		{5, 3, 1, 1, 64, 5, 8, 16, 136},
		{5, 4, 1, 4, 64, 8, 16, 24, 200},
		{8, 0, 8, 8, 1024, 8, 8, 16, 136},
		{9, 0, 1, 8, 32, 16, 16, 24, 200},
		{128, 128, 8, 8, 1024, 128, 256, 264, 2120},
	} {
		if l, e := layout.Parse(want[:5]...); l != lay(want) || e != api.OK {
			t.Errorf("P3.2: Parse(%v) = %v, error %d, want %v", want[:5], l, e, want)
		}
	}
}

func TestExamplesOfRefusals(t *testing.T) {
	refuses(t, api.ErrFields)
	refuses(t, api.ErrFields, 1, 0, 1, 1)
	refuses(t, api.ErrFields, 0, -1, 3, 3, 3, 3)
	refuses(t, api.ErrKey, 0, -1, 3, 3, 3)
	refuses(t, api.ErrKey, 129, 0, 1, 1, 16)
	refuses(t, api.ErrElem, 128, 129, 3, 1, 16)
	refuses(t, api.ErrAlign, 6, 0, 4, 1, 17)
	refuses(t, api.ErrAlign, 6, 6, 2, 16, 16)
	refuses(t, api.ErrAlign, 6, 6, 0, 1, 16)
	refuses(t, api.ErrCap, 6, 6, 2, 2, 8)
	refuses(t, api.ErrCap, 6, 6, 2, 2, 2048)
	refuses(t, api.ErrCap, 6, 6, 2, 2, 48)
}

func TestExamplesOfPlaces(t *testing.T) {
	l := parse(t, 5, 4, 1, 4, 64)
	for i, want := range map[int][3]int{0: {8, 16, 24}, 7: {176, 184, 192}, 8: {-1, -1, -1}, -1: {-1, -1, -1}} {
		if got := [3]int{layout.KeyAt(l, i), layout.ElemAt(l, i), layout.BirthAt(l, i)}; got != want {
			t.Errorf("P3.4: slot %d: %v, want %v", i, got, want)
		}
	}
	if n := layout.KeyAt(api.Layout{}, 0); n != -1 {
		t.Errorf("P3.4: KeyAt(zeros, 0) = %d, want -1", n)
	}
	for slots, want := range map[int]int{8: 200, 16: 400, 65536: 1638400, 0: -1, 4: -1, 24: -1, 131072: -1, -8: -1} {
		if n := layout.Groups(l, slots); n != want {
			t.Errorf("P3.5: Groups(%d) = %d, want %d", slots, n, want)
		}
	}
}

func TestExamplesOfValid(t *testing.T) {
	l := parse(t, 5, 4, 1, 4, 64)
	wide, near := l, l
	wide.Slot, near.ElemOff = 32, 5
	for _, c := range []struct {
		l    api.Layout
		want bool
	}{{l, true}, {wide, false}, {near, false}, {api.Layout{}, false}} {
		if layout.Valid(c.l) != c.want {
			t.Errorf("P3.3: Valid(%v) = %v", c.l, !c.want)
		}
	}
}
