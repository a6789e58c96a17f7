package typed_test

import (
	"testing"

	"larder/api"
	"larder/typed"
)

// TestUseHandles: P21.9: the error of the handle, ahead of the codecs'; nothing changes.
func TestUseHandles(t *testing.T) {
	s := world(t)
	was := state(s)
	for _, c := range wrongHandles {
		if m, e := typed.Use(s, text(3), whole, c.h); m != nil || e != c.e {
			t.Errorf("P21.9: Use of %d: a map: %v, error %d, want %d", c.h, m != nil, e, c.e)
		}
		if m, e := typed.Use(s, text(128), truth, c.h); m != nil || e != c.e {
			t.Errorf("P21.9: Use of %d with wrong codecs: a map: %v, error %d, want %d", c.h, m != nil, e, c.e)
		}
	}
	if state(s) != was {
		t.Error("P21.9: Use has changed the store")
	}
}

// TestUseWidths: P21.9: ErrCodec just where a width is not the layout's.
func TestUseWidths(t *testing.T) {
	s := world(t)
	was := state(s)
	widths := []int{0, 1, 2, 3, 4, 5, 7, 8, 9, 16, 127, 128, 129, 256 + 4, 256 + 8, 1<<32 + 4, 1<<32 + 8, most}
	for h, shape := range map[int][2]int{words: {4, 8}, crowd: {8, 1}, bare: {4, 8}} {
		for _, key := range widths {
			for _, elem := range widths {
				want := api.ErrCodec
				if key == shape[0] && elem == shape[1] {
					want = api.OK
				}
				m, e := typed.Use(s, raw(key, 1), raw(elem, 1), h)
				if e != want || (m != nil) != (want == api.OK) || m != nil && m.Handle() != h {
					t.Errorf("P21.9: Use of %d with the widths %d and %d: a map: %v, error %d, want %d", h, key, elem, m != nil, e, want)
				}
			}
		}
	}
	if state(s) != was {
		t.Error("P21.9: Use has changed the store")
	}
}

// TestUseAligns: P21.9: alignments and the cap don't matter, be they ever so wrong.
func TestUseAligns(t *testing.T) {
	s := world(t)
	was := state(s)
	for _, keyAlign := range []int{1, 2, 4, 8, 3, 16, 0, -1, least, most} {
		for _, elemAlign := range []int{1, 2, 4, 8, 3, 16, 0, -1, least, most} {
			for _, h := range []int{words, bare} {
				if m, e := typed.Use(s, raw(4, keyAlign), raw(8, elemAlign), h); m == nil || e != api.OK || m.Handle() != h {
					t.Errorf("P21.9: Use of %d with the aligns %d and %d: error %d", h, keyAlign, elemAlign, e)
				}
			}
		}
	}
	if state(s) != was {
		t.Error("P21.9: Use has changed the store")
	}
}

// TestUseSees: P21.9: the map is seen through the codecs that are handed in, whatever made it.
func TestUseSees(t *testing.T) {
	s := world(t)
	m := used(t, s, text(3), whole, words)
	if v, yes, e := m.Get("abc"); v != -6 || !yes || e != api.OK {
		t.Errorf("P21.9: Get = %d, %v, error %d", v, yes, e)
	}
	r := used(t, s, raw(4, 1), natural, words)
	if v, yes, e := r.Get("abc\x03"); v != 1<<63-6 || !yes || e != api.OK {
		t.Errorf("P21.9: through other codecs: Get = %d, %v, error %d", v, yes, e)
	}
	b := used(t, s, text(3), float, bare)
	puts(t, b, "x", 2.5, true)
	if elem, yes, e := s.Get(bare, "x\x00\x00\x01"); elem != laid(t, float, 2.5) || !yes || e != api.OK {
		t.Errorf("P21.9: by the handle: %x, %v, error %d", elem, yes, e)
	}
	if n, e := used(t, s, whole, truth, crowd).Len(); n != crowded || e != api.OK {
		t.Errorf("P21.9: Len = %d, error %d", n, e)
	}
}

// TestUseOthers: P21.9: handles that other calls have given: a clone's, and those between which some are dead.
func TestUseOthers(t *testing.T) {
	s := begin(t, 1<<20)
	for i := range 40 {
		h, e := s.Make(1, 0, 1+i%3, 8, 1, 8, 16)
		if h != i+1 || e != api.OK {
			t.Fatalf("Make: error %d", e)
		}
	}
	for h := 1; h <= 40; h += 5 {
		if e := s.Release(h); e != api.OK {
			t.Fatalf("Release: error %d", e)
		}
	}
	for h := 1; h <= 40; h++ {
		for key := 1; key <= 3; key++ {
			want := api.OK
			if (h-1)%5 == 0 {
				want = api.ErrGone
			} else if key != 1+(h-1)%3 {
				want = api.ErrCodec
			}
			if m, e := typed.Use(s, raw(key, 1), whole, h); e != want || (m != nil) != (want == api.OK) {
				t.Errorf("P21.9: Use of %d with the width %d: error %d, want %d", h, key, e, want)
			}
		}
	}
	c, _ := s.Clone(2)
	if m := used(t, s, raw(2, 1), whole, c); m.Handle() != c {
		t.Errorf("P21.9: a clone: the handle %d", m.Handle())
	}
}
