package store_test

import (
	"fmt"
	"math"
	"slices"
	"strings"
	"testing"

	"larder/api"
	"larder/arena"
	"larder/layout"
	"larder/store"
)

const most = 4611686018427387904 // 2^62

// holding: a store with the maps 1, 3 (with a directory) and 6, a dead one (2), and walks (4, 5, one of them dead); the next handle is 7.
func holding(t *testing.T) *store.Store {
	t.Helper()
	s := begin(t, 1<<16, api.Over{Key: "q", Hash: 9}, api.Over{Key: "p", Hash: 1})
	made(t, s, "abc")
	made(t, s, "xy")
	made(t, s, letters(20))
	opened(t, s, 3, 2)
	opened(t, s, 1, 0)
	made(t, s, "")
	answers(t, "P14.6: Release", s.Release(5, 2), api.OK)
	return s
}

// TestRestoreRefused: P14.11: each reason by itself, at each bound; the overrides come first.
func TestRestoreRefused(t *testing.T) {
	s := holding(t)
	a := twin(t, s.Arena())
	was := look(t, a)
	restores := func(what string, want api.Errno, change func(h *api.Hold)) {
		t.Helper()
		for _, over := range []struct {
			list []api.Over
			e    api.Errno
		}{{s.Hold().Over, want}, {nil, want}, {[]api.Over{{}}, api.ErrLong}, {overrides(65), api.ErrMany}, {[]api.Over{{Key: "a"}, {Key: "a", Hash: 1}}, api.ErrTwice}, {[]api.Over{{Key: strings.Repeat("k", 129)}}, api.ErrLong}} {
			h := s.Hold()
			change(&h)
			h.Over = over.list
			given := api.Hold{Over: slices.Clone(h.Over), Next: h.Next, Maps: slices.Clone(h.Maps)}
			u, e := store.Restore(h, a)
			if e != over.e || (u == nil) != (e != api.OK) {
				t.Fatalf("P14.11: Restore of %s, with %d overrides: error %d, want %d, nil: %v", what, len(over.list), e, over.e, u == nil)
			}
			sameHold(t, "W3: what was handed in", h, given)
			like(t, "P14.11: Restore of "+what, a, was)
		}
	}
	restores("what was told", api.OK, func(h *api.Hold) {})
	restores("nothing", api.ErrHold, func(h *api.Hold) { *h = api.Hold{} })
	for _, next := range []int{math.MinInt, -1, 0, 1, 5, 6, most + 1, math.MaxInt} {
		restores(fmt.Sprint("the next handle ", next), api.ErrHold, func(h *api.Hold) { h.Next = next })
	}
	for _, next := range []int{7, 8, most - 1, most} {
		restores(fmt.Sprint("the next handle ", next), api.OK, func(h *api.Hold) { h.Next = next })
	}
	restores("no maps and the next handle 0", api.ErrHold, func(h *api.Hold) { h.Next, h.Maps = 0, nil })
	restores("no maps and the next handle 1", api.OK, func(h *api.Hold) { h.Next, h.Maps = 1, nil })
	restores("no maps and the next handle 2^62", api.OK, func(h *api.Hold) { h.Next, h.Maps = most, nil })
	restores("no maps and the next handle 2^62 + 1", api.ErrHold, func(h *api.Hold) { h.Next, h.Maps = most+1, nil })
	for _, hs := range [][3]int{{1, 2, 3}, {4, 5, 6}, {1, 5, 6}} {
		restores(fmt.Sprint("the handles ", hs), api.OK, func(h *api.Hold) { handles(h, hs) })
	}
	for _, hs := range [][3]int{{0, 3, 6}, {-1, 3, 6}, {math.MinInt, 3, 6}, {1, 1, 6}, {1, 3, 3}, {3, 1, 6}, {1, 6, 3}, {6, 3, 1}, {1, 3, 7}, {1, 7, 6}, {1, 7, 8}, {1, 3, math.MaxInt}, {1, 3, 0}, {1, 0, 6}, {1, -3, 6}} {
		restores(fmt.Sprint("the handles ", hs), api.ErrHold, func(h *api.Hold) { handles(h, hs) })
	}
	for i := range 3 {
		for f := range 9 {
			for _, by := range []int{-1, 1, 64, -1 << 62} {
				l := s.Hold().Maps[i].Root.Layout
				*number(&l, f) += by
				want := api.ErrHold
				if layout.Valid(l) { // another map's: elems of other widths, another cap
					want = api.OK
				}
				restores(fmt.Sprintf("map %d with the layout %v", i, l), want, func(h *api.Hold) { h.Maps[i].Root.Layout = l })
			}
		}
		restores("a layout of zeros", api.ErrHold, func(h *api.Hold) { h.Maps[i].Root.Layout = api.Layout{} })
		restores("another layout", api.OK, func(h *api.Hold) { h.Maps[i].Root.Layout = lay(t, descriptors[3]) })
		for _, off := range offsets(s.Arena()) {
			restores(fmt.Sprintf("map %d at %d", i, off), api.ErrHold, func(h *api.Hold) { h.Maps[i].Root.Off = off })
		}
		for j := range 3 {
			if i != j {
				restores("two maps at one offset", api.ErrHold, func(h *api.Hold) { h.Maps[i].Root.Off = h.Maps[j].Root.Off })
			}
		}
	}
	restores("maps that have changed places", api.OK, func(h *api.Hold) {
		h.Maps[0].Root, h.Maps[1].Root, h.Maps[2].Root = h.Maps[1].Root, h.Maps[2].Root, h.Maps[0].Root
	})
	restores("one map fewer", api.OK, func(h *api.Hold) { h.Maps = slices.Delete(h.Maps, 1, 2) })
	restores("a table's header, which has 64 bytes, too", api.OK, func(h *api.Hold) { h.Maps[0].Root.Off = tableAt(t, s) })
}

func handles(h *api.Hold, hs [3]int) {
	for i, n := range hs {
		h.Maps[i].Handle = n
	}
}

// number: one of a layout's nine.
func number(l *api.Layout, n int) *int {
	return []*int{&l.Key, &l.Elem, &l.KeyAlign, &l.ElemAlign, &l.Cap, &l.ElemOff, &l.BirthOff, &l.Slot, &l.Group}[n]
}

// offsets: where no live block of 64 bytes begins: free blocks, blocks of other sizes, places within blocks, the edges of the arena, far ones.
func offsets(a *arena.Arena) []int {
	offs := []int{0, 8, 15, -16, -1, math.MinInt, math.MaxInt, a.End(), a.End() + 64, 1 << 40}
	for _, p := range a.Parts() {
		if !p.Live || p.Size != 64 {
			offs = append(offs, p.Off)
		}
		offs = append(offs, p.Off+1, p.Off+8, p.Off+p.Size-1)
	}
	return offs
}

// tableAt: where a table's header of the map 3 lies.
func tableAt(t *testing.T, s *store.Store) int {
	t.Helper()
	root, e := s.Arena().Load(s.Roots()[1].Off+32, 8)
	answers(t, "Load", e, api.OK)
	off, e := s.Arena().Load(int(root), 8)
	answers(t, "Load", e, api.OK)
	if size, _ := s.Arena().Size(int(off)); size != 64 {
		t.Fatalf("no table's header lies at %d", off)
	}
	return int(off)
}

// TestRestoreHandles: P14.11: which handles live, and which are dead; the lists that were handed in are not kept; handles go on from Next, above 2^62 too.
func TestRestoreHandles(t *testing.T) {
	for _, next := range []int{7, 8, 1000, most - 1, most} {
		s := holding(t)
		h := s.Hold()
		h.Next = next
		u, e := store.Restore(h, twin(t, s.Arena()))
		answers(t, "P14.11: Restore", e, api.OK)
		spoil(h.Over, api.Over{Key: "spoilt"})
		spoil(h.Maps, api.Kept{Handle: -1})
		want := s.Hold()
		want.Next = next
		sameHold(t, "P14.11: behind Restore", u.Hold(), want)
		if hs := u.Handles(); !slices.Equal(hs, []int{1, 3, 6}) {
			t.Fatalf("P14.11: behind Restore Handles = %v", hs)
		}
		for _, d := range []int{2, 4, 5, next - 1} {
			if d == 6 {
				continue
			}
			_, _, f := u.Next(d)
			_, _, g := u.Get(d, "too wide")
			if f != api.ErrGone || g != api.ErrGone || u.Release(1, d, 1) != api.ErrGone {
				t.Fatalf("P14.11: behind Restore the handle %d is not dead: error %d, %d", d, f, g)
			}
		}
		for _, d := range []int{0, -1, next, next + 1, math.MaxInt} {
			if _, f := u.Len(d); f != api.ErrHandle {
				t.Fatalf("P14.11: behind Restore with the next handle %d: Len(%d): error %d", next, d, f)
			}
		}
		for i := range 3 {
			n, e := u.Make(0, 0, chapter...)
			w, f := u.Open(n, 0, 0)
			if n != next+2*i || w != n+1 || e != api.OK || f != api.OK {
				t.Fatalf("P14.11: behind the next handle %d: Make = %d, error %d, Open = %d, error %d", next, n, e, w, f)
			}
		}
		if h := u.Hold(); h.Next != next+6 {
			t.Fatalf("P14.10: Hold tells the next handle %d, want %d", h.Next, next+6)
		}
		if _, e := store.Restore(u.Hold(), u.Arena()); (e == api.ErrHold) != (next+6 > most) {
			t.Fatalf("P14.11: Restore with the next handle %d: error %d", next+6, e)
		}
		if u.Arena() == s.Arena() || u.Oracle() == s.Oracle() || u.Oracle().Hash(3, "q") != 9 || u.Oracle().Hash(3, "z") != s.Oracle().Hash(3, "z") {
			t.Fatal("P14.11: the new store has not an arena and a hash of its own")
		}
	}
}

// TestRestoreLooksAtNothingElse: P14.11: a live block of 64 bytes is enough, whatever lies in it; of its blocks no byte changes, and no call panics or waits.
func TestRestoreLooksAtNothingElse(t *testing.T) {
	for _, fill := range []byte{0, 1, 128, 255} {
		a, e := arena.New(1 << 12)
		answers(t, "arena.New", e, api.OK)
		off, e := a.Alloc(64)
		answers(t, "Alloc", e, api.OK)
		answers(t, "Fill", a.Fill(off, 64, fill), api.OK)
		was := look(t, a)
		s, e := store.Restore(api.Hold{Next: 9, Maps: []api.Kept{{Handle: 4, Root: api.Root{Off: off, Layout: lay(t, chapter)}}}}, a)
		answers(t, "P14.11: Restore", e, api.OK)
		like(t, "P14.11: Restore", a, was)
		if s.Arena() != a || !slices.Equal(s.Handles(), []int{4}) {
			t.Error("P14.11: the store has another arena, or other handles")
		}
		for range s.All(4) {
			break
		}
		s.Get(4, "a")
		s.Open(4, 0, 0)
		s.Release(4)
	}
}

// again: a store made anew of what the store tells, in an arena that holds what its holds.
func again(t *testing.T, s *store.Store) *store.Store {
	t.Helper()
	u, e := store.Restore(s.Hold(), twin(t, s.Arena()))
	answers(t, "P14.11: Restore", e, api.OK)
	return u
}

// TestRestoreGoesOn: P14.11: in the midst of long scripts, when no walk is open, a store is made anew; from then on it answers as the other does, its offsets and the order of its walks too, and neither sees what is done to the other.
func TestRestoreGoesOn(t *testing.T) {
	for i, k := range kinds {
		for n, limit := range []int{4000, 30000, 1 << 19} {
			t.Run(fmt.Sprint(k.name, ", limit ", limit), func(t *testing.T) {
				t.Parallel()
				r := newRun(t, 500+10*i+n, limit, k.over())
				for range 3 {
					r.goOn(400)
					var walks []int
					for _, x := range r.w.live(isWalk) {
						walks = append(walks, x.h)
					}
					r.w.do(api.Cmd{Op: api.OpRelease, Hs: walks})
					r.w.stores = append(r.w.stores, again(t, r.w.stores[len(r.w.stores)-1]))
					r.w.holds("P14.11: behind Restore")
				}
				r.goOn(400)
				r.finish()
				apart(t, r.w.stores)
			})
		}
	}
}

// apart: what is done to one of the stores is not seen by the others.
func apart(t *testing.T, stores []*store.Store) {
	t.Helper()
	for i, s := range stores {
		var was []state
		for _, u := range stores {
			was = append(was, stateOf(t, u))
		}
		s.Make(1, 0, chapter...)
		s.Make(2, 20, chapter...)
		for j, u := range stores {
			if i != j {
				unchanged(t, "W2: another store", u, was[j])
			}
		}
	}
}

// TestRestoreWithWalks: P14.11: walks are not told: their handles are dead, and what they stood on stays pinned by nobody's hand.
func TestRestoreWithWalks(t *testing.T) {
	w := crowd(t)
	u := again(t, w.stores[0])
	if hs := u.Handles(); !slices.Equal(hs, []int{1, 2, 5}) {
		t.Fatalf("P14.11: Handles = %v", hs)
	}
	for _, h := range []int{3, 4, 6, 7, 8, 9, 10, 11} {
		if _, _, e := u.Next(h); e != api.ErrGone {
			t.Fatalf("P14.11: Next(%d): error %d", h, e)
		}
	}
	like(t, "P14.11: Restore", u.Arena(), look(t, w.a))
	w.goes()
	answers(t, "P14.6: Release", u.Release(5, 1, 2), api.OK)
	if u.Live() != 0 {
		t.Errorf("U5: all handles are released, and %d bytes are live", u.Live())
	}
}
