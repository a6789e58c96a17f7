package tools_test

import (
	"fmt"
	"iter"
	"maps"
	"math"
	"slices"
	"testing"

	"larder/api"
	"larder/store"
	"larder/swiss"
	"larder/tools"
)

// TestCollect: P18.7: a new map of these pairs, with that seed and that descriptor and no hint: just what a Make and puts make; the answer is its handle.
func TestCollect(t *testing.T) {
	for name, of := range hashes {
		for _, seed := range []uint64{0, 5, math.MaxUint64} {
			for _, fields := range [][]int{chapter, {1, 1, 1, 1, 1024}} {
				for _, n := range []int{0, 1, 8, 9, 40, 200} {
					build := two(t, 1<<21, of, 9, 9)
					ranges, asked := 0, 0
					got, e := asPlainly(t, "P18.7: "+name+": Collect", build,
						func(s *store.Store) (any, api.Errno) {
							return tools.Collect(s, seed, counted(drawn(n), &ranges, &asked), fields...)
						},
						func(s *store.Store) (any, api.Errno) {
							h, _ := s.Make(seed, 0, fields...)
							for _, p := range drawn(n) {
								s.Put(h, p.Key, p.Elem)
							}
							return h, api.OK
						})
					if got != 3 || e != api.OK || ranges != 1 || asked != n {
						t.Fatalf("P18.7: %s: Collect of %d pairs = %v, error %d; ranged over %d times, asked for %d", name, n, got, e, ranges, asked)
					}
				}
			}
		}
	}
}

// TestCollectSeed: P18.7: the new map has the seed, the layout and no more slots than its keys need.
func TestCollectSeed(t *testing.T) {
	s := world(t)
	h, e := tools.Collect(s, 4711, s.All(few), 1, 1, 1, 1, 128)
	r := root(t, s, h)
	st, _ := swiss.At(s.Arena(), r.Layout, s.Oracle(), r.Off).Stat()
	if h != nextFree || e != api.OK || st.Seed != 4711 || r.Layout.Cap != 128 || st.Used != 2 || st.Births != 2 || st.Epoch != 0 || st.Depth != -1 {
		t.Errorf("P18.7: Collect = %d, error %d; the map is %+v, its cap %d", h, e, st, r.Layout.Cap)
	}
	h, e = tools.Collect(s, 1, s.All(bare), chapter...)
	if n, _ := s.Slots(h); h != nextFree+1 || e != api.OK || n != 0 {
		t.Errorf("P18.7: Collect of no pairs = %d, error %d, with %d slots", h, e, n)
	}
}

// TestCollectFields: P18.7: what Make refuses: that error, nothing is asked for, nothing has changed, the next handle neither.
func TestCollectFields(t *testing.T) {
	for _, c := range []struct {
		fields []int
		e      api.Errno
	}{
		{nil, api.ErrFields}, {[]int{1, 1, 1, 1}, api.ErrFields}, {[]int{1, 1, 1, 1, 16, 0}, api.ErrFields},
		{[]int{0, -1, 3, 3, 3}, api.ErrKey}, {[]int{129, 1, 1, 1, 16}, api.ErrKey}, {[]int{least, 1, 1, 1, 16}, api.ErrKey},
		{[]int{1, -1, 3, 3, 3}, api.ErrElem}, {[]int{1, 129, 1, 1, 16}, api.ErrElem},
		{[]int{6, 1, 4, 1, 3}, api.ErrAlign}, {[]int{1, 1, 0, 1, 16}, api.ErrAlign}, {[]int{1, 1, 1, most, 16}, api.ErrAlign},
		{[]int{1, 1, 1, 1, 8}, api.ErrCap}, {[]int{1, 1, 1, 1, 65}, api.ErrCap}, {[]int{1, 1, 1, 1, 2048}, api.ErrCap},
	} {
		s := world(t)
		was := state(s)
		ranges, asked := 0, 0
		h, e := tools.Collect(s, 5, counted(drawn(3), &ranges, &asked), c.fields...)
		if h != 0 || e != c.e || ranges != 0 || asked != 0 || state(s) != was {
			t.Errorf("P18.7: Collect by %v = %d, error %d, want error %d; ranged over %d times", c.fields, h, e, c.e, ranges)
		}
	}
}

// TestCollectNoHeader: P18.7: there is no room for the new map: ErrMemory, nothing is asked for, the next handle is what it was.
func TestCollectNoHeader(t *testing.T) {
	for _, limit := range []int{0, 1, 63} {
		s := begin(t, limit)
		was := state(s)
		ranges, asked := 0, 0
		h, e := tools.Collect(s, 5, counted(drawn(3), &ranges, &asked), chapter...)
		if h != 0 || e != api.ErrMemory || ranges != 0 || state(s) != was {
			t.Errorf("P18.7: limit %d: Collect = %d, error %d; ranged over %d times", limit, h, e, ranges)
		}
	}
}

// TestCollectRefused: P18.7: the pair at each place is refused: 0 and its error, nothing more is asked for; the new map is released, its handle dead, the next handle one more; all else is as it was.
func TestCollectRefused(t *testing.T) {
	for _, bad := range []struct {
		p api.Pair
		e api.Errno
	}{{pair("", "x"), api.ErrKeyWidth}, {pair("ab", ""), api.ErrKeyWidth}, {pair("a", ""), api.ErrElemWidth}, {pair("a", "xy"), api.ErrElemWidth}} {
		for _, at := range []int{0, 1, 8, 14, 29} {
			list := drawn(30)
			list[at] = bad.p
			s := world(t)
			handles, live, before := s.Handles(), s.Live(), finite(t, s, many)
			ranges, asked := 0, 0
			h, e := tools.Collect(s, 5, counted(list, &ranges, &asked), chapter...)
			if h != 0 || e != bad.e || ranges != 1 || asked != at+1 {
				t.Errorf("P18.7: Collect with %q at %d = %d, error %d, asked for %d pairs", bad.p, at, h, e, asked)
			}
			if _, e := s.Len(nextFree); e != api.ErrGone || s.Hold().Next != nextFree+1 {
				t.Errorf("P18.7: the refused map's handle: error %d; the next handle is %d", e, s.Hold().Next)
			}
			if !slices.Equal(s.Handles(), handles) || s.Live() != live || !maps.Equal(finite(t, s, many), before) {
				t.Errorf("P18.7: behind a refused Collect the handles are %v, %d bytes are live", s.Handles(), s.Live())
			}
			sound(t, s)
			if h, e := tools.Collect(s, 5, s.All(few), chapter...); h != nextFree+1 || e != api.OK {
				t.Errorf("P18.7: the next Collect = %d, error %d", h, e)
			}
		}
	}
}

// TestCollectOutOfMemory: P18.7: under each limit: what plain steps make of it, be the new map refused, one of its puts, or none.
func TestCollectOutOfMemory(t *testing.T) {
	t.Parallel()
	seen := outcomes{}
	for name, of := range hashes {
		for limit := 448; limit < 9000; limit += 56 {
			what := fmt.Sprintf("P18.7: %s, limit %d: Collect", name, limit)
			live := 0
			_, e := asPlainly(t, what, func() *store.Store {
				s := begin(t, limit, overs(of)...)
				made(t, s, 1, chapter, 1, 2, 3)
				live = s.Live()
				return s
			}, func(s *store.Store) (any, api.Errno) {
				var ranges, asked int
				h, e := tools.Collect(s, 3, counted(drawn(40), &ranges, &asked), 1, 1, 1, 1, 32)
				if e != api.OK && s.Live() != live {
					t.Errorf("%s is refused, and %d bytes are live, were %d", what, s.Live(), live)
				}
				return h, e
			}, func(s *store.Store) (any, api.Errno) {
				var ranges, asked int
				return plainCollect(s, 3, counted(drawn(40), &ranges, &asked), 1, 1, 1, 1, 32)
			})
			seen[e]++
		}
	}
	if seen[api.OK] < 20 || seen[api.ErrMemory] < 20 || len(seen) != 2 {
		t.Errorf("the test is too tame: %v", seen)
	}
}

// TestCollectDeeds: P18.7: an iterator that does this and that in the same store, to the new map too.
func TestCollectDeeds(t *testing.T) {
	own := map[string]func(s *store.Store, k string, n int){
		"releases the new map":        at(2, func(s *store.Store, k string) { s.Release(3) }),
		"releases it at once":         at(1, func(s *store.Store, k string) { s.Release(3) }),
		"clears the new map":          at(4, func(s *store.Store, k string) { s.Clear(3, 9) }),
		"puts into the new map":       func(s *store.Store, k string, n int) { s.Put(3, key(1, 100+n), "n") },
		"opens a walk over it":        at(3, func(s *store.Store, k string) { w, _ := s.Open(3, 0, 0); s.Next(w) }),
		"collects":                    at(3, func(s *store.Store, k string) { tools.Collect(s, 1, s.All(2), chapter...) }),
		"releases all":                at(3, func(s *store.Store, k string) { s.Release(s.Handles()...) }),
		"deletes from the new map":    func(s *store.Store, k string, n int) { s.Delete(3, key(1, n*n%97)) },
		"collects the new map itself": at(5, func(s *store.Store, k string) { tools.Collect(s, 1, s.All(3), chapter...) }),
	}
	seen := outcomes{}
	for name, deed := range own {
		for _, bad := range []bool{false, true} {
			list := drawn(12)
			if bad {
				list[9] = pair("abc", "x")
			}
			gives := func(s *store.Store) iter.Seq2[string, string] {
				return func(yield func(string, string) bool) {
					for i, p := range list {
						deed(s, p.Key, i+1)
						if !yield(p.Key, p.Elem) {
							return
						}
					}
				}
			}
			_, e := asPlainly(t, "P18.7: Collect by an iterator that "+name, two(t, 1<<20, nil, 9, 9),
				func(s *store.Store) (any, api.Errno) { return tools.Collect(s, 1, gives(s), chapter...) },
				func(s *store.Store) (any, api.Errno) { return plainCollect(s, 1, gives(s), chapter...) })
			seen[e]++
		}
	}
	if seen[api.OK] == 0 || seen[api.ErrGone] == 0 || seen[api.ErrKeyWidth] == 0 {
		t.Errorf("the test is too tame: %v", seen)
	}
}
