package tools_test

import (
	"slices"
	"testing"

	"larder/api"
	"larder/store"
	"larder/tools"
)

// equal: Equal answers so, either way round, and nothing changes.
func equal(t *testing.T, what string, s *store.Store, g, h int, want bool) {
	t.Helper()
	was := state(s)
	for _, hs := range [][]int{{g, h}, {h, g}} {
		if yes, e := tools.Equal(s, hs[0], hs[1]); yes != want || e != api.OK {
			t.Fatalf("P18.2: %s: Equal(%v) = %v, error %d; want %v", what, hs, yes, e, want)
		}
	}
	if state(s) != was {
		t.Fatalf("P18.2: %s: behind Equal the store is not as it was", what)
	}
}

// alikePairs: two maps in one store with the same n keys and elems, put in unlike orders, with other seeds, caps and alignments.
func alikePairs(t *testing.T, of func(int) uint64, fields, other []int, n int) (*store.Store, int, int) {
	t.Helper()
	s := begin(t, 1<<21, overs(of)...)
	g := made(t, s, 1, fields)
	h := made(t, s, 99, other)
	l := numbers(0, n)
	put := func(m int) {
		for _, i := range l {
			s.Put(m, key(fields[0], i), elem(fields[1], i))
		}
	}
	put(g)
	slices.Reverse(l)
	put(h)
	return s, g, h
}

// TestEqual: P18.2: maps of each size with the same pairs; then one pair is made another, on either side, and made the same again.
func TestEqual(t *testing.T) {
	for _, of := range hashes {
		for _, d := range [][2][]int{{chapter, {1, 1, 1, 1, 64}}, {{4, 4, 1, 1, 16}, {4, 4, 4, 2, 32}}} {
			fields := d[0]
			for _, n := range sizes {
				s, g, h := alikePairs(t, of, fields, d[1], n)
				equal(t, "the same pairs", s, g, h, true)
				equal(t, "one map", s, g, g, true)
				for _, i := range []int{0, n / 2, n - 1} {
					if n == 0 {
						break
					}
					k := key(fields[0], i)
					s.Put(h, k, elem(fields[1], i+1))
					equal(t, "another elem", s, g, h, false)
					s.Delete(h, k)
					equal(t, "a key less", s, g, h, false)
					s.Put(h, key(fields[0], 230), elem(fields[1], i))
					equal(t, "another key, as many", s, g, h, false)
					s.Put(h, k, elem(fields[1], i))
					equal(t, "a key more", s, g, h, false)
					s.Delete(h, key(fields[0], 230))
					equal(t, "the same again", s, g, h, true)
				}
			}
		}
	}
}

// TestEqualWithoutKeys: P18.2: bare, cleared and emptied maps are equal; one with a key is not equal to them.
func TestEqualWithoutKeys(t *testing.T) {
	s := begin(t, 1<<20)
	none := []int{made(t, s, 1, chapter), made(t, s, 2, chapter, numbers(0, 30)...), made(t, s, 3, chapter, numbers(0, 30)...), made(t, s, 4, chapter, 1)}
	s.Clear(none[1], 9)
	for _, h := range none[2:] {
		for i := range 30 {
			s.Delete(h, key(1, i))
		}
	}
	one := made(t, s, 5, chapter, 1)
	for _, g := range none {
		for _, h := range none {
			equal(t, "no keys", s, g, h, true)
		}
		equal(t, "no keys and one", s, g, one, false)
	}
}

// TestEqualElemsOfNoBytes: P18.2: with elems of no bytes the keys alone count.
func TestEqualElemsOfNoBytes(t *testing.T) {
	s := begin(t, 1<<20)
	g, h := made(t, s, 1, []int{1, 0, 1, 1, 16}, 1, 2, 3), made(t, s, 2, []int{1, 0, 1, 1, 32}, 3, 2, 1)
	equal(t, "elems of no bytes", s, g, h, true)
	s.Delete(g, key(1, 2))
	equal(t, "a key less", s, g, h, false)
	s.Put(g, key(1, 4), "")
	equal(t, "another key", s, g, h, false)
}

// TestEqualOfTheWorld: P18.2: all maps of the world against each other, with walks standing on them; a clone is equal till it is changed.
func TestEqualOfTheWorld(t *testing.T) {
	s := world(t)
	maps := []int{few, many, bare, grown}
	for _, g := range maps {
		for _, h := range maps {
			equal(t, "maps of the world", s, g, h, g == h)
		}
	}
	for _, g := range append(maps, longKeys, longElems) {
		h, e := s.Clone(g)
		if e != api.OK {
			t.Fatalf("Clone: error %d", e)
		}
		equal(t, "a clone", s, g, h, true)
		for k := range s.All(h) {
			s.Delete(h, k)
			equal(t, "a clone with a key less", s, g, h, false)
			break
		}
	}
}
