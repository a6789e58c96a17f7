package tools_test

import (
	"fmt"
	"maps"
	"testing"

	"larder/api"
	"larder/store"
	"larder/tools"
)

// two: a store with two maps (1 and 2) of so many keys, of which some are in both. Each call makes it anew, just the same.
func two(t testing.TB, limit int, of func(int) uint64, to, from int) func() *store.Store {
	return func() *store.Store {
		t.Helper()
		s := begin(t, limit, overs(of)...)
		made(t, s, 1, chapter, numbers(0, to)...)
		made(t, s, 2, []int{1, 1, 1, 1, 64}, numbers(to*2/3, to*2/3+from)...)
		return s
	}
}

// TestCopy: P18.3: maps of every size: the answer is how many keys are new; the one has the other's pairs beside its own; the other is as it was.
func TestCopy(t *testing.T) {
	for name, of := range hashes {
		for _, to := range sizes[:8] {
			for _, from := range sizes[:9] {
				build := two(t, 1<<21, of, to, from)
				s := build()
				want, other := finite(t, s, 1), finite(t, s, 2)
				was := len(want)
				maps.Copy(want, other)
				n, e := tools.Copy(s, 1, 2)
				if n != len(want)-was || e != api.OK {
					t.Fatalf("P18.3: %s: Copy of %d keys to %d = %d, error %d; want %d", name, from, to, n, e, len(want)-was)
				}
				if !maps.Equal(finite(t, s, 1), want) || !maps.Equal(finite(t, s, 2), other) {
					t.Fatalf("P18.3: %s: behind Copy of %d keys to %d the maps are %s and %s", name, from, to, text(t, s, 1), text(t, s, 2))
				}
				asPlainly(t, "P18.3: Copy", build, func(s *store.Store) (any, api.Errno) { return tools.Copy(s, 1, 2) }, func(s *store.Store) (any, api.Errno) { return plainCopy(t, s, 1, 2) })
			}
		}
	}
}

// TestCopyAgain: P18.3: what has been copied is not new a second time; of a key that is there the elem is the other map's, though it was not counted.
func TestCopyAgain(t *testing.T) {
	s := begin(t, 65536)
	spelt(t, s, 1, chapter, "ax by")
	spelt(t, s, 2, chapter, "bz cz dz")
	for i, want := range []int{2, 0} {
		if n, e := tools.Copy(s, 1, 2); n != want || e != api.OK || text(t, s, 1) != "ax bz cz dz" {
			t.Errorf("P18.3: Copy, time %d = %d, error %d; the map is %s", i+1, n, e, text(t, s, 1))
		}
	}
	if n, e := tools.Copy(s, 2, 1); n != 1 || e != api.OK || text(t, s, 2) != "ax bz cz dz" {
		t.Errorf("P18.3: Copy back = %d, error %d; the map is %s", n, e, text(t, s, 2))
	}
}

// TestCopyOneMap: P18.3: a map copied to itself: 0, and nothing has changed, whatever walks stand on it.
func TestCopyOneMap(t *testing.T) {
	s := world(t)
	was := state(s)
	for _, h := range []int{few, many, bare, grown, longKeys, longElems} {
		if n, e := tools.Copy(s, h, h); n != 0 || e != api.OK || state(s) != was {
			t.Fatalf("P18.3: Copy(%d, %d) = %d, error %d", h, h, n, e)
		}
	}
}

// TestCopyAlignments: P18.3: maps of one shape whose bytes lie unlike.
func TestCopyAlignments(t *testing.T) {
	s := begin(t, 1<<20)
	made(t, s, 1, []int{8, 4, 8, 4, 16}, numbers(0, 20)...)
	made(t, s, 2, []int{8, 4, 1, 1, 1024}, numbers(10, 50)...)
	want := finite(t, s, 1)
	maps.Copy(want, finite(t, s, 2))
	if n, e := tools.Copy(s, 1, 2); n != 30 || e != api.OK || !maps.Equal(finite(t, s, 1), want) {
		t.Errorf("P18.3: Copy = %d, error %d", n, e)
	}
	sound(t, s)
}

// limits: from hardly more than the two maps take to where nothing is refused any more, in steps.
func limits(t *testing.T, of func(int) uint64, to, from int) []int {
	t.Helper()
	s := two(t, 1<<21, of, to, from)()
	tight := s.Live()
	tools.Copy(s, 1, 2)
	var l []int
	for limit := tight; limit < 2*s.Live()+1000; limit += 112 {
		l = append(l, limit)
	}
	return l
}

// TestCopyRefused: P18.3: a put is refused midway: 0, ErrMemory; what was put till then stays, nothing that came behind it was put; the other map is as it was.
func TestCopyRefused(t *testing.T) {
	t.Parallel()
	refused, midway := 0, 0
	for name, of := range hashes {
		for _, c := range [][2]int{{0, 5}, {6, 8}, {8, 1}, {12, 30}, {30, 40}} {
			for _, limit := range limits(t, of, c[0], c[1]) {
				build := two(t, limit, of, c[0], c[1])
				if !fits(limit, of, c[0], c[1]) {
					continue
				}
				was := finite(t, build(), 1)
				var now map[string]string
				what := fmt.Sprintf("P18.3: %s, limit %d: Copy of %d keys to %d", name, limit, c[1], c[0])
				_, e := asPlainly(t, what, build, func(s *store.Store) (any, api.Errno) {
					n, e := tools.Copy(s, 1, 2)
					now = finite(t, s, 1)
					return n, e
				}, func(s *store.Store) (any, api.Errno) { return plainCopy(t, s, 1, 2) })
				if e == api.OK {
					continue
				}
				refused++
				if e != api.ErrMemory {
					t.Fatalf("%s: error %d", what, e)
				}
				if len(now) > len(was) {
					midway++
				}
			}
		}
	}
	if refused < 20 || midway < 20 {
		t.Errorf("the test is too tame: %d were refused, %d of them midway", refused, midway)
	}
}

// fits: can the two maps be made in an arena of that limit?
func fits(limit int, of func(int) uint64, to, from int) bool {
	s, _ := store.New(limit, overs(of)...)
	for i, l := range [][]int{numbers(0, to), numbers(to*2/3, to*2/3+from)} {
		h, e := s.Make(uint64(i+1), 0, 1, 1, 1, 1, []int{16, 64}[i])
		for _, n := range l {
			if e == api.OK {
				_, e = s.Put(h, key(1, n), "x")
			}
		}
		if e != api.OK {
			return false
		}
	}
	return true
}

// TestCopyStaysTill: P18.3: the pairs that came ahead of the refused one are there, with the elems of keys that were there replaced; those behind it are not.
func TestCopyStaysTill(t *testing.T) {
	s := begin(t, 64+192+64+192)
	spelt(t, s, 1, chapter, "ax bx cx dx ex fx")
	spelt(t, s, 2, chapter, "ay gy by hy cy iy dy jy")
	var order []string
	for k := range s.All(2) {
		order = append(order, k)
	}
	want := map[string]string{"a": "x", "b": "x", "c": "x", "d": "x", "e": "x", "f": "x"}
	for _, k := range order {
		if _, there := want[k]; !there && len(want) == 8 {
			break // a ninth key: a table would be needed
		}
		want[k] = "y"
	}
	n, e := tools.Copy(s, 1, 2)
	if n != 0 || e != api.ErrMemory || !maps.Equal(finite(t, s, 1), want) || len(want) != 8 {
		t.Errorf("P18.3: Copy = %d, error %d; the map is %s; the order was %q", n, e, text(t, s, 1), order)
	}
	if text(t, s, 2) != "ay by cy dy gy hy iy jy" {
		t.Errorf("P18.3: the other map is %s", text(t, s, 2))
	}
}
