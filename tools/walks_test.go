package tools_test

import (
	"fmt"
	"slices"
	"testing"

	"larder/api"
	"larder/store"
	"larder/tools"
)

// nothingLeft: P18.9: no handle has come but the new map's, no walk stands on anything that it did not stand on.
func nothingLeft(t *testing.T, what string, s *store.Store, handles []int, made, pins, retired int) {
	t.Helper()
	if made > 0 {
		handles = append(slices.Clone(handles), made)
	}
	if now := s.Handles(); !slices.Equal(now, handles) {
		t.Fatalf("P18.9: behind %s the handles are %v, want %v", what, now, handles)
	}
	if p, r := stands(s); p != pins || r != retired {
		t.Fatalf("P18.9: behind %s there are %d pins and %d retired ones, were %d and %d", what, p, r, pins, retired)
	}
}

// TestNoWalkIsLeft: P18.9: behind each call, over maps of the world and handles that are none: the handles are those that there were, the walks stand where they stood.
func TestNoWalkIsLeft(t *testing.T) {
	of := []int{few, many, bare, grown, longKeys, deadMap, manyWalk, 0, nextFree}
	for _, c := range calls {
		for n := c.least; n <= min(c.most, 2); n++ {
			for _, hs := range lists(n, of) {
				s := world(t)
				handles := s.Handles()
				pins, retired := stands(s)
				asked, made := 0, 0
				got, e := c.do(s, &asked, hs...)
				if c.least == 0 && e == api.OK {
					made = nextFree
				}
				if c.name == "Copy" || c.name == "Merge" || c.name == "Insert" { // few's block, on which a walk stands, may have been replaced
					_, retired = stands(s)
				}
				nothingLeft(t, fmt.Sprintf("%s(%v) = %s", c.name, hs, short(got)), s, handles, made, pins, retired)
				sound(t, s)
			}
		}
	}
}

// TestNoWalkIsLeftMidway: P18.9: calls that are refused at each of their pairs, by a wrong width or because the map is gone: behind them nothing is pinned, nothing retired.
func TestNoWalkIsLeftMidway(t *testing.T) {
	for when := 1; when <= 20; when++ {
		for _, n := range []int{5, 20, 60} {
			build := func() *store.Store {
				s := begin(t, 1<<20)
				made(t, s, 1, chapter, numbers(0, n)...)
				made(t, s, 2, chapter, numbers(0, n)...)
				made(t, s, 3, []int{2, 1, 1, 1, 16})
				return s
			}
			wrongAt := func(grows bool, s *store.Store) func(k, old, v string) string {
				asked := 0
				return func(k, old, v string) string {
					if asked++; asked == when {
						return ""
					}
					if grows { // what the walk stands on is replaced meanwhile
						for i := range 10 {
							s.Put(1, key(1, 60+asked*10+i), "g")
							s.Put(2, key(1, 60+asked*10+i), "g")
						}
					}
					return v
				}
			}
			for _, grows := range []bool{false, true} {
				for _, hs := range [][2]int{{1, 2}, {1, 1}} {
					s := build()
					_, e := tools.Merge(s, hs[0], hs[1], wrongAt(grows, s))
					if want := when <= n; (e == api.ErrElemWidth) != want {
						t.Fatalf("P18.4: Merge: error %d at call %d of %d keys", e, when, n)
					}
					nothingLeft(t, "a Merge that is refused midway", s, []int{1, 2, 3}, 0, 0, 0)
					sound(t, s)
				}
			}
			s := build()
			asked := 0
			tools.DeleteFunc(s, 1, func(k, v string) bool {
				if asked++; asked == when {
					s.Release(1)
				}
				return asked%2 == when%2
			})
			if when <= n {
				nothingLeft(t, "a DeleteFunc whose map is released", s, []int{2, 3}, 0, 0, 0)
			}
			s = build()
			if _, e := tools.Insert(s, 3, s.All(1)); e != api.ErrKeyWidth {
				t.Fatalf("P18.6: Insert: error %d", e)
			}
			if _, e := tools.Collect(s, 3, s.All(1), wide...); e != api.ErrKeyWidth {
				t.Fatalf("P18.7: Collect: error %d", e)
			}
			nothingLeft(t, "an Insert and a Collect that are refused", s, []int{1, 2, 3}, 0, 0, 0)
			sound(t, s)
		}
	}
}

// TestNoWalkIsLeftBehindUnequal: P18.9, P18.2: maps that differ at each of their pairs.
func TestNoWalkIsLeftBehindUnequal(t *testing.T) {
	for _, n := range []int{1, 8, 9, 60} {
		for i := range n {
			s, g, h := alikePairs(t, nil, chapter, []int{1, 1, 1, 1, 64}, n)
			s.Put(h, key(1, i), "!")
			was := state(s)
			if yes, e := tools.Equal(s, g, h); yes || e != api.OK || state(s) != was {
				t.Fatalf("P18.2: Equal of maps that differ at %d = %v, error %d", i, yes, e)
			}
			nothingLeft(t, "Equal", s, []int{g, h}, 0, 0, 0)
		}
	}
}

// TestAllIsFree: P18.9, U5: behind many calls all bytes are free when all handles are released.
func TestAllIsFree(t *testing.T) {
	s := world(t)
	for range 3 {
		for _, c := range calls {
			for n := c.least; n <= min(c.most, 2); n++ {
				for _, hs := range lists(n, []int{few, many, bare, grown, longKeys, fewWalk}) {
					asked := 0
					if made, e := c.do(s, &asked, hs...); e == api.OK && c.least == 0 {
						s.Release(made.(int))
					}
				}
			}
		}
	}
	sound(t, s)
	if e := s.Release(s.Handles()...); e != api.OK || s.Live() != 0 {
		t.Errorf("P18.9: all is released, error %d, and %d bytes are live", e, s.Live())
	}
}
