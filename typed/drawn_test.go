package typed_test

import (
	"fmt"
	"math"
	"math/rand"
	"testing"

	"larder/api"
	"larder/store"
	"larder/typed"
)

// play: drawn calls on a map of typed, each held against a map of the language whose keys are told by name. Name tells two keys apart just where they are two values.
func play[K any, V comparable](t *testing.T, what string, s *store.Store, k typed.Codec[K], v typed.Codec[V], r *rand.Rand, name func(key K) string, key func() K, value func() V) {
	t.Helper()
	m := made(t, s, k, v, r.Uint64())
	model := map[string]V{}
	for range 400 {
		key := key()
		old, there := model[name(key)]
		switch r.Intn(6) {
		case 0, 1, 2:
			v := value()
			if added, e := m.Put(key, v); added == there || e != api.OK {
				t.Fatalf("P21.10: %s: Put(%v, %v) = %v, error %d", what, key, v, added, e)
			}
			model[name(key)] = v
		case 3:
			if was, e := m.Delete(key); was != there || e != api.OK {
				t.Fatalf("P21.10: %s: Delete(%v) = %v, error %d", what, key, was, e)
			}
			delete(model, name(key))
		case 4:
			if got, yes, e := m.Get(key); got != old || yes != there || e != api.OK {
				t.Fatalf("P21.10: %s: Get(%v) = %v, %v, error %d; want %v, %v", what, key, got, yes, e, old, there)
			}
		default:
			m = used(t, s, k, v, m.Handle())
		}
		if n, e := m.Len(); n != len(model) || e != api.OK {
			t.Fatalf("P21.10: %s: Len = %d, error %d; want %d", what, n, e, len(model))
		}
	}
	n := 0
	for key, v := range m.All() {
		if want, there := model[name(key)]; !there || v != want {
			t.Fatalf("P21.11: %s: %v and %v, want %v, %v", what, key, v, want, there)
		}
		n++
	}
	if n != len(model) {
		t.Fatalf("P21.11: %s: %d pairs, want %d", what, n, len(model))
	}
	calm(t, what, s)
}

// TestDrawn: P21.10 to P21.12: drawn calls on maps of several kinds answer as finite maps of values do.
func TestDrawn(t *testing.T) {
	for seed := range int64(12) {
		r := rand.New(rand.NewSource(seed))
		s := begin(t, 1<<21)
		short := func() string {
			b := make([]byte, r.Intn(4))
			for i := range b {
				b[i] = []byte{0, 'a', 255}[r.Intn(3)]
			}
			return string(b)
		}
		number := func() int64 { return int64(r.Intn(80)) - 40 }
		fraction := func() float64 {
			switch r.Intn(6) {
			case 0:
				return math.Float64frombits(r.Uint64() | 0x7ff<<52 | 1)
			case 1:
				return minusZero
			}
			return float64(r.Intn(40)-20) / 4
		}
		plain := func(v float64) string {
			if v == 0 {
				return "0"
			}
			return fmt.Sprint(v)
		}
		play(t, "whole numbers", s, whole, text(3), r, func(k int64) string { return fmt.Sprint(k) }, number, short)
		play(t, "texts", s, text(3), whole, r, func(k string) string { return k }, short, number)
		play(t, "floats", s, float, truth, r, plain, fraction, func() bool { return r.Intn(2) == 0 })
		play(t, "truth", s, truth, natural, r, func(k bool) string { return fmt.Sprint(k) }, func() bool { return r.Intn(2) == 0 }, r.Uint64)
		play(t, "twos", s, both(float, text(3)), both(whole, text(3)), r, func(k typed.Two[float64, string]) string { return fmt.Sprintf("%s %q", plain(k.First), k.Second) },
			func() typed.Two[float64, string] { return two(fraction(), short()) }, func() typed.Two[int64, string] { return two(number(), short()) })
	}
}
