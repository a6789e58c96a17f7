package typed_test

import (
	"math"
	"slices"
	"testing"

	"larder/api"
	"larder/tools"
)

// TestOneMap: P21.12: one map through several Maps and by its handle: what one does the others see at once.
func TestOneMap(t *testing.T) {
	s := begin(t, 65536)
	m := made(t, s, text(3), whole, 7)
	a, b := used(t, s, text(3), whole, m.Handle()), used(t, s, raw(4, 1), natural, m.Handle())
	lens := func(want int) {
		t.Helper()
		x, _ := m.Len()
		y, _ := a.Len()
		z, _ := b.Len()
		w, _ := s.Len(m.Handle())
		if x != want || y != want || z != want || w != want {
			t.Errorf("P21.12: Len is %d, %d, %d and %d, want %d", x, y, z, w, want)
		}
	}
	lens(0)
	puts(t, m, "abc", 1, true)
	puts(t, a, "abc", 2, false)
	puts(t, b, "abc\x03", 1<<63+3, false)
	lens(1)
	if v, yes, e := m.Get("abc"); v != 3 || !yes || e != api.OK {
		t.Errorf("P21.12: Get = %d, %v, error %d", v, yes, e)
	}
	if yes, e := s.Put(m.Handle(), "abc\x03", laid(t, whole, -4)); yes || e != api.OK {
		t.Errorf("P21.12: the store's Put: %v, error %d", yes, e)
	}
	if v, yes, e := a.Get("abc"); v != -4 || !yes || e != api.OK {
		t.Errorf("P21.12: Get = %d, %v, error %d", v, yes, e)
	}
	puts(t, b, "x\x00\x00\x01", 0, true)
	if v, yes, e := a.Get("x"); v != math.MinInt64 || !yes || e != api.OK {
		t.Errorf("P21.12: Get = %d, %v, error %d", v, yes, e)
	}
	lens(2)
	if yes, e := a.Delete("abc"); !yes || e != api.OK {
		t.Errorf("P21.12: Delete = %v, error %d", yes, e)
	}
	if yes, e := m.Delete("abc"); yes || e != api.OK {
		t.Errorf("P21.12: Delete of what another has deleted: %v, error %d", yes, e)
	}
	lens(1)
	n := 0
	for range m.All() {
		a.Delete("x")
		n++
	}
	if n != 1 {
		t.Errorf("P21.12: %d pairs", n)
	}
	lens(0)
	s.Release(m.Handle())
	if _, e := b.Len(); e != api.ErrGone {
		t.Errorf("P21.12: Len of a map that was released by its handle: error %d", e)
	}
}

// TestOneKey: P21.12: the two zeros are one key, and all that is no number is one key: also within a Two.
func TestOneKey(t *testing.T) {
	s := begin(t, 65536)
	m := made(t, s, float, whole, 7)
	puts(t, m, 0, 1, true)
	puts(t, m, minusZero, 2, false)
	if v, yes, e := m.Get(0); v != 2 || !yes || e != api.OK {
		t.Errorf("P21.12: Get(0) = %d, %v, error %d", v, yes, e)
	}
	for i, v := range nans() {
		puts(t, m, v, int64(i), i == 0)
	}
	for _, v := range nans() {
		if n, yes, e := m.Get(v); n != int64(len(nans())-1) || !yes || e != api.OK {
			t.Errorf("P21.12: Get of the NaN %x = %d, %v, error %d", math.Float64bits(v), n, yes, e)
		}
	}
	if n, e := m.Len(); n != 2 || e != api.OK {
		t.Errorf("P21.12: Len = %d, error %d", n, e)
	}
	if yes, e := m.Delete(math.Float64frombits(0xfff0000000000001)); !yes || e != api.OK {
		t.Errorf("P21.12: Delete of a NaN: %v, error %d", yes, e)
	}
	if yes, e := m.Delete(minusZero); !yes || e != api.OK {
		t.Errorf("P21.12: Delete of the negative zero: %v, error %d", yes, e)
	}
	c := made(t, s, both(float, float), whole, 7)
	puts(t, c, two(0.0, math.NaN()), 1, true)
	puts(t, c, two(minusZero, math.Float64frombits(0xffffffffffffffff)), 2, false)
	puts(t, c, two(math.NaN(), 0.0), 3, true)
	puts(t, c, two(math.Float64frombits(0x7ff0000000000001), minusZero), 4, false)
	if n, e := c.Len(); n != 2 || e != api.OK {
		t.Errorf("P21.12: Twos: Len = %d, error %d", n, e)
	}
}

// TestTwoKeys: P21.6: keys that are not the same value are not one key.
func TestTwoKeys(t *testing.T) {
	s := begin(t, 1<<20)
	m := made(t, s, both(text(3), text(3)), whole, 7)
	n := int64(0)
	l := []string{"", "\x00", "\x00\x00", "a", "a\x00", "ab", "abc", "b", "\xff"}
	for _, v := range each(l, l) {
		puts(t, m, v, n, true)
		n++
	}
	n = 0
	for _, v := range each(l, l) {
		if got, yes, e := m.Get(v); got != n || !yes || e != api.OK {
			t.Errorf("P21.6: Get(%q) = %d, %v, error %d; want %d", v, got, yes, e, n)
		}
		n++
	}
}

// TestKeysRise: P21.7: the keys that tools.Keys tells stand in the order of their values.
func TestKeysRise(t *testing.T) {
	s := begin(t, 1<<21)
	m := made(t, s, float, truth, 7)
	for _, v := range floatsAndNans() {
		m.Put(v, true)
	}
	keys, e := tools.Keys(s, m.Handle())
	if n := len(floats()) - 1 + 1; len(keys) != n || e != api.OK { // one zero less, one NaN more
		t.Fatalf("P21.7: %d keys, want %d, error %d", len(keys), n, e)
	}
	var got []float64
	for _, k := range keys {
		got = append(got, float.Unpack(k))
	}
	if !slices.IsSortedFunc(got, byFloat) || got[0] != math.Inf(-1) || !math.IsNaN(got[len(got)-1]) {
		t.Errorf("P21.7: the floats come as %v", got)
	}
	w := made(t, s, whole, truth, 7)
	for _, v := range wholes() {
		w.Put(v, true)
	}
	keys, _ = tools.Keys(s, w.Handle())
	want := slices.Compact(slices.Sorted(slices.Values(wholes())))
	if len(keys) != len(want) {
		t.Fatalf("P21.7: %d keys, want %d", len(keys), len(want))
	}
	for i, v := range want {
		if whole.Unpack(keys[i]) != v {
			t.Errorf("P21.7: key %d is %d, want %d", i, whole.Unpack(keys[i]), v)
		}
	}
}
