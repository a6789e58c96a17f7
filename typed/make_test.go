package typed_test

import (
	"testing"

	"larder/api"
	"larder/layout"
	"larder/store"
	"larder/typed"
)

// wants: typed.Make with these codecs answers what it should: with an error no map, no handle, and no change of the store (but of the arena's end, where memory was short).
func wants[K, V any](t *testing.T, s *store.Store, k typed.Codec[K], v typed.Codec[V], slots, hint int, want api.Errno) {
	t.Helper()
	was := state(s)
	m, e := typed.Make(s, k, v, slots, 9, hint)
	if m != nil || e != want {
		t.Errorf("P21.8: widths %d and %d, aligns %d and %d, cap %d, hint %d: a map: %v, error %d, want %d", k.Width(), v.Width(), k.Align(), v.Align(), slots, hint, m != nil, e, want)
	}
	if want != api.ErrMemory && state(s) != was {
		t.Errorf("P21.8: a Make that was refused by %d has changed the store", want)
	}
}

// TestMakeCodec: P21.8: codecs that no layout has, by each of the numbers; ahead of a wrong cap and a wrong hint.
func TestMakeCodec(t *testing.T) {
	s := begin(t, 65536)
	for _, c := range []struct{ key, elem, keyAlign, elemAlign int }{
		{0, 8, 1, 8}, {129, 8, 1, 8}, {256 + 8, 8, 8, 8}, {most, 8, 1, 8}, {1<<32 + 8, 8, 8, 8},
		{8, 129, 8, 1}, {8, 1<<32 + 8, 8, 8}, {8, most, 8, 1}, {0, 129, 3, 3},
		{8, 8, 0, 8}, {8, 8, -1, 8}, {8, 8, 3, 8}, {8, 8, 16, 8}, {8, 8, least, 8}, {8, 8, most, 8}, {6, 8, 4, 8}, {7, 8, 2, 8}, {12, 8, 8, 8},
		{8, 8, 8, 0}, {8, 8, 8, -8}, {8, 8, 8, 5}, {8, 8, 8, 16}, {8, 8, 8, least}, {8, 6, 8, 4}, {8, 1, 8, 2}, {8, 12, 8, 8}, {8, 0, 8, 3},
	} {
		for _, slots := range []int{16, 64, 1024, 17, 0, -16, 2048, least, most} {
			for _, hint := range []int{0, 5, 4096, -1, 4097, least, most} {
				wants(t, s, raw(c.key, c.keyAlign), raw(c.elem, c.elemAlign), slots, hint, api.ErrCodec)
			}
		}
	}
}

// TestMakeOwnCodecs: P21.8: the codecs of this package that no layout has.
func TestMakeOwnCodecs(t *testing.T) {
	s := begin(t, 65536)
	wants(t, s, text(128), whole, 17, -1, api.ErrCodec)
	wants(t, s, text(-1), whole, 16, 0, api.ErrCodec)
	wants(t, s, text(most), whole, 16, 0, api.ErrCodec)
	wants(t, s, both(text(127), truth), whole, 16, 0, api.ErrCodec)
	wants(t, s, whole, both(text(80), text(80)), 16, 0, api.ErrCodec)
	wants(t, s, both(text(128), text(-1)), whole, 16, 0, api.ErrCodec) // 0 bytes as a key
	// As an elem 0 bytes are a layout's: a map whose values can't be laid, any of them.
	m, e := typed.Make(s, whole, text(128), 16, 0, 0)
	if m == nil || e != api.OK {
		t.Fatalf("P21.8: elems of no bytes: error %d", e)
	}
	if yes, e := m.Put(1, ""); yes || e != api.ErrElemWidth {
		t.Errorf("P21.10: a value that can't be laid: %v, error %d", yes, e)
	}
}

// TestMakeStoreErrors: P21.8: what the store answers else: the cap, then the hint, then memory.
func TestMakeStoreErrors(t *testing.T) {
	s := begin(t, 65536)
	for _, slots := range []int{17, 0, 1, 8, 15, 24, -16, 2048, 1<<32 + 16, least, most} {
		for _, hint := range []int{0, -1, 4097, least, most} {
			wants(t, s, whole, whole, slots, hint, api.ErrCap)
		}
	}
	for _, hint := range []int{-1, 4097, least, most, 1 << 32} {
		wants(t, s, whole, whole, 16, hint, api.ErrHint)
	}
	none := begin(t, 63)
	wants(t, none, whole, whole, 16, 0, api.ErrMemory)
	wants(t, none, whole, whole, 16, 4097, api.ErrHint)
	wants(t, none, whole, whole, 17, 0, api.ErrCap)
	wants(t, none, text(-1), whole, 16, 0, api.ErrCodec)
	wants(t, s, whole, whole, 16, 4096, api.ErrMemory) // more than the limit holds
	if n := s.Hold().Next; n != 1 || s.Live() != 0 || len(s.Handles()) != 0 {
		t.Errorf("P21.8: behind Makes that were refused the next handle is %d, and %d bytes are live", n, s.Live())
	}
}

// sameAsStore: P21.8: Make makes just the map that the store makes of these numbers, byte by byte, with the same handle.
func sameAsStore[K, V any](t *testing.T, k typed.Codec[K], v typed.Codec[V], slots int, seed uint64, hint int) {
	t.Helper()
	s, u := begin(t, 1<<21), begin(t, 1<<21)
	for want := 1; want <= 2; want++ {
		h, f := u.Make(seed, hint, k.Width(), v.Width(), k.Align(), v.Align(), slots)
		m, e := typed.Make(s, k, v, slots, seed, hint)
		if m == nil || e != api.OK || f != api.OK || h != want || m.Handle() != h {
			t.Fatalf("P21.8: Make: error %d; the store's: %d, error %d", e, h, f)
		}
		if state(s) != state(u) {
			t.Fatalf("P21.8: widths %d and %d, cap %d, seed %d, hint %d: not the map that the store makes", k.Width(), v.Width(), slots, seed, hint)
		}
	}
	l, e := layout.Parse(k.Width(), v.Width(), k.Align(), v.Align(), slots)
	if got := root(t, s, 1).Layout; got != l || e != api.OK {
		t.Errorf("P21.8: the layout %+v, want %+v, error %d", got, l, e)
	}
}

// TestMakeNumbers: P21.8: the store is asked with the codecs' numbers, the seed, the hint and the cap, each in its place.
func TestMakeNumbers(t *testing.T) {
	for _, slots := range []int{16, 32, 64, 128, 256, 512, 1024} {
		for _, seed := range []uint64{0, 7, 1<<64 - 1} {
			for _, hint := range []int{0, 8, 9, 100} {
				sameAsStore(t, text(3), whole, slots, seed, hint)
			}
		}
	}
	sameAsStore(t, whole, truth, 16, 7, 20)
	sameAsStore(t, truth, whole, 16, 7, 20)
	sameAsStore(t, float, natural, 16, 7, 4096)
	sameAsStore(t, text(127), both(whole, float), 16, 7, 0)
	sameAsStore(t, both(text(100), both(truth, text(25))), text(127), 32, 7, 9)
	sameAsStore(t, raw(6, 2), raw(12, 4), 64, 5, 20)
	sameAsStore(t, raw(12, 4), raw(6, 2), 64, 5, 20)
	sameAsStore(t, raw(128, 8), raw(128, 8), 1024, 5, 20)
	sameAsStore(t, raw(1, 1), raw(0, 8), 16, 5, 20)
	sameAsStore(t, text(0), text(0), 16, 5, 0)
}

// TestMakeMemory: P21.8: with each limit Make is refused just where the store's Make is.
func TestMakeMemory(t *testing.T) {
	for limit := 0; limit < 3000; limit += 16 {
		s, u := begin(t, limit), begin(t, limit)
		for {
			_, f := u.Make(3, 20, 8, 1, 8, 1, 32)
			m, e := typed.Make(s, whole, truth, 32, 3, 20)
			if e != f || (m == nil) != (e != api.OK) || e != api.OK && e != api.ErrMemory {
				t.Fatalf("P21.8: limit %d: error %d, want %d", limit, e, f)
			}
			if state(s) != state(u) {
				t.Fatalf("P21.8: limit %d: the store is not what the store's Make leaves", limit)
			}
			if e != api.OK {
				break
			}
		}
	}
}
