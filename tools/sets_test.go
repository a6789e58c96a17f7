package tools_test

import (
	"fmt"
	"maps"
	"slices"
	"testing"

	"larder/api"
	"larder/store"
	"larder/swiss"
	"larder/tools"
)

// sets: the three of them, by their names.
var sets = map[string]func(s *store.Store, hs ...int) (int, api.Errno){union: tools.Union, meet: tools.Meet, less: tools.Less}

// set: one of them, for a comparison.
func set(name string, hs ...int) func(s *store.Store) (any, api.Errno) {
	return func(s *store.Store) (any, api.Errno) { return sets[name](s, hs...) }
}

// four: a store with maps of several sizes that share keys: 1 small, 2 and 3 with tables, 4 without keys; with unlike seeds and caps, and elems that tell the map.
func four(t testing.TB, limit int, of func(int) uint64) func() *store.Store {
	return func() *store.Store {
		t.Helper()
		s := begin(t, limit, overs(of)...)
		made(t, s, 11, []int{1, 1, 1, 1, 32}, numbers(20, 27)...)
		made(t, s, 12, []int{1, 1, 1, 1, 16}, numbers(0, 40)...)
		made(t, s, 13, []int{1, 1, 1, 1, 64}, numbers(22, 60)...)
		made(t, s, 14, chapter)
		return s
	}
}

// TestSets: P18.8: all lists of up to three of four maps, a map named more than once among them: the new map is what plain steps make; its pairs are those of the sets; the maps that are named are as they were.
func TestSets(t *testing.T) {
	t.Parallel()
	for kind, of := range hashes {
		for name := range sets {
			for n := 1; n <= 3; n++ {
				for _, hs := range lists(n, []int{1, 2, 3, 4}) {
					var before []map[string]string
					var got map[string]string
					what := fmt.Sprintf("P18.8: %s: %s(%v)", kind, name, hs)
					h, e := asPlainly(t, what, four(t, 1<<21, of), func(s *store.Store) (any, api.Errno) {
						before = nil
						for h := 1; h <= 4; h++ {
							before = append(before, finite(t, s, h))
						}
						h, e := sets[name](s, hs...)
						got = finite(t, s, h)
						for i, was := range before {
							if !maps.Equal(finite(t, s, i+1), was) {
								t.Fatalf("%s has changed the map %d", what, i+1)
							}
						}
						return h, e
					}, func(s *store.Store) (any, api.Errno) { return plainSet(t, s, name, hs...) })
					if want := wantSet(name, before, hs); h != 5 || e != api.OK || !maps.Equal(got, want) {
						t.Fatalf("%s = %v, error %d: %s, want %s", what, h, e, short(got), short(want))
					}
				}
			}
		}
	}
}

// wantSet: the pairs of a set, by finite maps (of the handles from 1 on).
func wantSet(name string, of []map[string]string, hs []int) map[string]string {
	want := map[string]string{}
	if name == union {
		for _, h := range slices.Backward(hs) {
			maps.Copy(want, of[h-1]) // the first comes last, and its elems stay
		}
		return want
	}
	for k, v := range of[hs[0]-1] {
		in := 0
		for _, h := range hs[1:] {
			if _, there := of[h-1][k]; there {
				in++
			}
		}
		if name == meet && in == len(hs)-1 || name == less && in == 0 {
			want[k] = v
		}
	}
	return want
}

// TestSetLayout: P18.8: the new map has the first one's five numbers, the seed 0, and is made without a hint.
func TestSetLayout(t *testing.T) {
	for name, f := range sets {
		for _, fields := range [][]int{{8, 4, 1, 1, 16}, {8, 4, 8, 4, 64}, {8, 4, 2, 1, 1024}} {
			s := begin(t, 1<<20)
			first := made(t, s, 77, fields, numbers(0, 5)...)
			made(t, s, 78, []int{8, 4, 4, 2, 128}, numbers(3, 40)...)
			h, e := f(s, first, 2)
			r := root(t, s, h)
			st, _ := swiss.At(s.Arena(), r.Layout, s.Oracle(), r.Off).Stat()
			if h != 3 || e != api.OK || st.Seed != 0 || st.Epoch != 0 || r.Layout != root(t, s, first).Layout {
				t.Errorf("P18.8: %s of a map by %v = %d, error %d; the new one is %+v, %+v", name, fields, h, e, st, r.Layout)
			}
		}
		s := begin(t, 1<<20)
		made(t, s, 77, chapter, numbers(0, 60)...)
		made(t, s, 78, chapter)
		if h, e := f(s, 2, 2); e != api.OK {
			t.Errorf("P18.8: %s = %d, error %d", name, h, e)
		} else if n, _ := s.Slots(h); n != 0 {
			t.Errorf("P18.8: %s without pairs has %d slots", name, n)
		}
	}
}

// TestSetHandles: P18.8: each set's handle is the next one; a refused one gives none, or a dead one.
func TestSetHandles(t *testing.T) {
	s := world(t)
	next := nextFree
	for range 3 {
		for name, f := range sets {
			if h, e := f(s, few, grown); h != next || e != api.OK {
				t.Fatalf("P18.8: %s = %d, error %d; want %d", name, h, e, next)
			}
			next++
			if h, e := f(s, few, longKeys); h != 0 || e != api.ErrShape {
				t.Fatalf("P18.8: %s of unlike maps = %d, error %d", name, h, e)
			}
		}
	}
}

// TestSetsOfTheWorld: P18.8: maps on which walks stand, with retired blocks, of other shapes.
func TestSetsOfTheWorld(t *testing.T) {
	for name := range sets {
		for _, hs := range [][]int{{few}, {many, grown}, {grown, many}, {bare, many}, {many, bare}, {few, many, grown, bare, few}, {longKeys, longKeys}, {longElems}} {
			_, e := asPlainly(t, fmt.Sprintf("P18.8: %s(%v)", name, hs), func() *store.Store { return world(t) }, set(name, hs...),
				func(s *store.Store) (any, api.Errno) { return plainSet(t, s, name, hs...) })
			if e != api.OK {
				t.Errorf("P18.8: %s(%v): error %d", name, hs, e)
			}
		}
	}
}

// TestManyHandles: P18.8: a set of very many handles, one map named again and again.
func TestManyHandles(t *testing.T) {
	for name, want := range map[string]string{union: "ax by cz", meet: "by", less: "ax"} {
		s := bench(t)
		hs := slices.Concat([]int{1}, slices.Repeat([]int{2}, 3000))
		if h, e := sets[name](s, hs...); h != 3 || e != api.OK || text(t, s, 3) != want {
			t.Errorf("P18.8: %s of 3001 handles = %d, error %d: %s", name, h, e, text(t, s, 3))
		}
	}
}

// TestSetsRefused: P18.8: with ever more room, from where not even the new map's header fits: 0 and ErrMemory; what was taken is free again; the next handle is what it was, if the new map was refused, else one more; the maps that are named are as they were. The walk of a refused set stands on nothing.
func TestSetsRefused(t *testing.T) {
	t.Parallel()
	noMap, noPut, fine := 0, 0, 0
	for kind, of := range hashes {
		for name := range sets {
			for _, room := range []int{0, 63, 64, 128, 255, 256, 500, 700, 1000, 1500, 2000, 3000, 5000, 9000} {
				for _, hs := range [][]int{{2}, {2, 3}, {2, 3, 1}, {1, 4}} {
					what := fmt.Sprintf("P18.8: %s, with room for %d bytes: %s(%v)", kind, room, name, hs)
					_, e := asPlainly(t, what, cramped(t, of, room), func(s *store.Store) (any, api.Errno) {
						next, handles, live := s.Hold().Next, s.Handles(), s.Live()
						h, e := sets[name](s, hs...)
						if e == api.OK {
							fine++
							return h, e
						}
						if now := s.Hold().Next; now == next {
							noMap++
						} else if noPut++; now != next+1 {
							t.Errorf("%s is refused: the next handle is %d, was %d", what, now, next)
						}
						pins, retired := stands(s)
						if e != api.ErrMemory || h != 0 || s.Live() != live || !slices.Equal(s.Handles(), handles) || pins != 0 || retired != 0 {
							t.Errorf("%s = %d, error %d; %d bytes are live, were %d; the handles are %v; %d pins, %d retired ones", what, h, e, s.Live(), live, s.Handles(), pins, retired)
						}
						return h, e
					}, func(s *store.Store) (any, api.Errno) { return plainSet(t, s, name, hs...) })
					if e != api.OK && e != api.ErrMemory || room < 64 && e == api.OK {
						t.Fatalf("%s: error %d", what, e)
					}
				}
			}
		}
	}
	if noMap < 50 || noPut < 50 || fine < 50 {
		t.Errorf("the test is too tame: %d new maps were refused, %d puts; %d were not", noMap, noPut, fine)
	}
}

// cramped: the four maps, and beside them others that leave just so much room, or hardly less.
func cramped(t testing.TB, of func(int) uint64, room int) func() *store.Store {
	return func() *store.Store {
		t.Helper()
		s := four(t, 1<<15, of)()
		free := func() int { return s.Arena().Limit() - s.Live() }
		for free()-room >= 5000 {
			made(t, s, 1, []int{128, 128, 8, 8, 1024}, 1)
		}
		for free() > room && free() >= 64 {
			made(t, s, 1, chapter)
		}
		return s
	}
}

// TestSetTells: P18.8: the laws of sets: a union is the meet and the two differences together; a map less itself has no keys; a map met with itself is equal to it.
func TestSetTells(t *testing.T) {
	for kind, of := range hashes {
		s := four(t, 1<<21, of)()
		made := func(h int, e api.Errno) int {
			t.Helper()
			if e != api.OK {
				t.Fatalf("P18.8: %s: error %d", kind, e)
			}
			return h
		}
		for _, hs := range lists(2, []int{1, 2, 3, 4}) {
			a, b := hs[0], hs[1]
			whole := made(tools.Union(s, a, b))
			parts := made(tools.Union(s, made(tools.Meet(s, a, b)), made(tools.Less(s, a, b)), made(tools.Less(s, b, a))))
			if yes, e := tools.Equal(s, whole, parts); !yes || e != api.OK {
				t.Fatalf("P18.8: %s: %d and %d: the union is %s, its parts are %s", kind, a, b, text(t, s, whole), text(t, s, parts))
			}
			if n, _ := s.Len(made(tools.Less(s, whole, a, b))); n != 0 {
				t.Fatalf("P18.8: %s: the union of %d and %d, less both, has %d keys", kind, a, b, n)
			}
			if yes, _ := tools.Equal(s, a, made(tools.Meet(s, a, a, whole))); !yes {
				t.Fatalf("P18.8: %s: %d met with itself and more is not equal to it", kind, a)
			}
			for _, h := range s.Handles() {
				if h > 4 {
					s.Release(h)
				}
			}
		}
	}
}
