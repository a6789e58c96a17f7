package typed_test

import (
	"fmt"
	"iter"
	"math"
	"slices"
	"testing"

	"larder/api"
	"larder/store"
	"larder/typed"
)

// rangesLike: P21.11: All gives what the store's All gives, in that order, each pair as values.
func rangesLike[K, V any](t *testing.T, s *store.Store, m *typed.Map[K, V], k typed.Codec[K], v typed.Codec[V]) {
	t.Helper()
	var got, want []string
	for key, value := range m.All() {
		got = append(got, fmt.Sprintf("%v %v", key, value))
	}
	for key, elem := range s.All(m.Handle()) {
		want = append(want, fmt.Sprintf("%v %v", k.Unpack(key), v.Unpack(elem)))
	}
	n, e := m.Len()
	if !slices.Equal(got, want) || len(got) != n || e != api.OK {
		t.Errorf("P21.11: %d pairs, of %d: %.200q; want %.200q", len(got), n, got, want)
	}
	calm(t, "a range", s)
}

// TestAllOrder: P21.11: maps of each size: none, a small block, a table, several.
func TestAllOrder(t *testing.T) {
	s := begin(t, 1<<21)
	for _, n := range []int64{0, 1, 2, 7, 8, 9, 14, 15, 40, 200} {
		m := made(t, s, whole, text(5), uint64(n))
		for i := range n {
			puts(t, m, i*i*i-50*i, fmt.Sprint(i), true)
		}
		rangesLike(t, s, m, whole, text(5))
		f := made(t, s, float, both(truth, natural), uint64(n))
		for i := range n {
			puts(t, f, float64(i-5)/3, two(i%2 == 0, uint64(i)), true)
		}
		rangesLike(t, s, f, float, both(truth, natural))
	}
	w := world(t)
	w.Release(walk, doneWalk)
	rangesLike(t, w, used(t, w, text(3), whole, words), text(3), whole)
	rangesLike(t, w, used(t, w, raw(4, 1), raw(8, 1), words), raw(4, 1), raw(8, 1))
	rangesLike(t, w, used(t, w, whole, truth, crowd), whole, truth)
	rangesLike(t, w, used(t, w, text(3), whole, bare), text(3), whole)
}

// filled: a store with a map of so many whole numbers from 0 on, each with its square.
func filled(t *testing.T, n int64) (*store.Store, *typed.Map[int64, int64]) {
	t.Helper()
	s := begin(t, 1<<20)
	m := made(t, s, whole, whole, 7)
	for i := range n {
		puts(t, m, i, i*i, true)
	}
	return s, m
}

// TestAllLeft: P21.11: a range that is left early, behind each number of pairs: nothing stands behind it, and the next one begins anew.
func TestAllLeft(t *testing.T) {
	for _, n := range []int64{1, 5, 8, 9, 30} {
		s, m := filled(t, n)
		was := state(s)
		all := m.All()
		var whole []int64
		for k := range all {
			whole = append(whole, k)
		}
		for stop := range int(n) {
			var got []int64
			for k, v := range all {
				if v != k*k {
					t.Fatalf("P21.11: %d and %d", k, v)
				}
				got = append(got, k)
				if len(got) > stop {
					break
				}
			}
			if !slices.Equal(got, whole[:stop+1]) {
				t.Fatalf("P21.11: left behind %d pairs: %v, want %v", stop+1, got, whole[:stop+1])
			}
			calm(t, "a range that was left", s)
		}
		if state(s) != was {
			t.Error("P21.11: ranges that were left have changed the store")
		}
	}
}

// TestAllLeftByPanic: P21.11: a body that panics: the walk of the range stands on nothing.
func TestAllLeftByPanic(t *testing.T) {
	s, m := filled(t, 30)
	func() {
		defer func() {
			if recover() != "out" {
				t.Error("P21.11: the body's panic does not come out")
			}
		}()
		for range m.All() {
			panic("out")
		}
	}()
	calm(t, "a body that panicked", s)
}

// TestAllAgain: P21.11, W9: one answer may be ranged over again, also within a range over itself.
func TestAllAgain(t *testing.T) {
	s, m := filled(t, 12)
	all := m.All()
	pairs := 0
	var outer []int64
	for k := range all {
		outer = append(outer, k)
		var inner []int64
		for i := range all {
			inner = append(inner, i)
			pairs++
		}
		if len(inner) != 12 {
			t.Errorf("W9: an inner range gives %v", inner)
		}
	}
	if len(outer) != 12 || pairs != 144 {
		t.Errorf("W9: %d and %d pairs", len(outer), pairs)
	}
	calm(t, "ranges in a range", s)
	next, stop := iter.Pull2(all)
	for i := range 5 {
		if _, _, yes := next(); !yes {
			t.Fatalf("P21.11: nothing behind %d pairs", i)
		}
	}
	stop()
	calm(t, "a range that was pulled", s)
}

// TestAllBegins: P21.11: a range begins when it is begun, not when All is called.
func TestAllBegins(t *testing.T) {
	s, m := filled(t, 3)
	all := m.All()
	puts(t, m, 99, 1, true)
	m.Delete(1)
	got := map[int64]int64{}
	for k, v := range all {
		got[k] = v
	}
	if fmt.Sprint(got) != "map[0:0 2:4 99:1]" {
		t.Errorf("P21.11: a range behind changes gives %v", got)
	}
	s.Release(m.Handle())
	for k := range all {
		t.Errorf("P21.11: a range of a map that is released gives %v", k)
	}
}

// TestAllBodies: P21.11: changes in the body are seen as a walk sees them: what is deleted does not come, what is put anew does not, another value does.
func TestAllBodies(t *testing.T) {
	for _, n := range []int64{4, 8, 9, 40} {
		s, m := filled(t, n)
		u, w := filled(t, n)
		var got, want []string
		change := func(m *typed.Map[int64, int64], k int64) {
			m.Delete((k + 1) % n)
			m.Put((k+2)%n, -k)
			m.Put(1000+k, k)
			m.Delete((k + 3) % n)
			m.Put((k+3)%n, 5)
		}
		for k, v := range m.All() {
			got = append(got, fmt.Sprint(k, " ", v))
			change(m, k)
		}
		for key, elem := range u.All(w.Handle()) {
			k, v := whole.Unpack(key), whole.Unpack(elem)
			want = append(want, fmt.Sprint(k, " ", v))
			change(w, k)
		}
		if !slices.Equal(got, want) || len(got) == 0 || state(s) != state(u) {
			t.Errorf("P21.11: %d keys, changed in the body: %v, want %v", n, got, want)
		}
		calm(t, "a range with changes", s)
	}
}

// TestAllDeletesAll: P21.11: each key is deleted as it comes: all come, and none is left.
func TestAllDeletesAll(t *testing.T) {
	s, m := filled(t, 40)
	n := 0
	for k := range m.All() {
		if yes, e := m.Delete(k); !yes || e != api.OK {
			t.Errorf("P21.11: %d comes, and is not there: error %d", k, e)
		}
		n++
	}
	if left, e := m.Len(); n != 40 || left != 0 || e != api.OK {
		t.Errorf("P21.11: %d keys came, %d are left, error %d", n, left, e)
	}
	calm(t, "a range that deletes", s)
}

// TestAllReleased: P21.11: the map is released, or cleared, in the body: the range ends.
func TestAllReleased(t *testing.T) {
	s, m := filled(t, 40)
	n := 0
	for range m.All() {
		if n++; n == 3 {
			s.Clear(m.Handle(), 5)
			puts(t, m, 7, 7, true)
		}
	}
	if n != 3 {
		t.Errorf("P21.11: a map that is cleared: %d pairs", n)
	}
	calm(t, "a range over a map that was cleared", s)
	s, m = filled(t, 40)
	n = 0
	for range m.All() {
		if n++; n == 3 {
			s.Release(m.Handle())
		}
	}
	if n != 3 || s.Live() != 0 {
		t.Errorf("P21.11: a map that is released: %d pairs, %d bytes are live", n, s.Live())
	}
}

// TestAllOfNoMap: P21.11: a handle that is no map's any more: nothing is given; and All is never nil.
func TestAllOfNoMap(t *testing.T) {
	s := world(t)
	m, c := used(t, s, text(3), whole, words), used(t, s, whole, truth, crowd)
	early := m.All()
	if e := s.Release(words, crowd); e != api.OK {
		t.Fatalf("Release: error %d", e)
	}
	was := state(s)
	if early == nil || m.All() == nil || c.All() == nil {
		t.Fatal("P21.11: All is nil")
	}
	for _, all := range []iter.Seq2[string, int64]{early, m.All()} {
		for k := range all {
			t.Errorf("P21.11: a map that is released gives %q", k)
		}
	}
	for k := range c.All() {
		t.Errorf("P21.11: a map that is released gives %d", k)
	}
	if state(s) != was {
		t.Error("P21.11: ranges over nothing have changed the store")
	}
}

// TestAllOddBytes: P21.11: bytes that no value is laid as, put by the handle, are given as they are read.
func TestAllOddBytes(t *testing.T) {
	s := begin(t, 65536)
	m := made(t, s, float, text(3), 0)
	s.Put(m.Handle(), "\x7f\xff\xff\xff\xff\xff\xff\xff", "abc\x09")
	for k, v := range m.All() {
		if k != 0 || !math.Signbit(k) || v != "" {
			t.Errorf("P21.11: %v, %q", k, v)
		}
	}
	if v, yes, e := m.Get(minusZero); v != "" || yes || e != api.OK { // it is not the key that a zero is laid as
		t.Errorf("P21.10: Get = %q, %v, error %d", v, yes, e)
	}
}
