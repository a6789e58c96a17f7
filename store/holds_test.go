package store_test

import (
	"fmt"
	"slices"

	"larder/api"
	"larder/store"
)

// holds: all that the stores tell of themselves is what it must be.
func (w *world) holds(what string) {
	w.t.Helper()
	if w.quiet {
		return
	}
	want := look(w.t, w.a)
	if b := w.bound(); want.live > b {
		w.t.Fatalf("%s: U5: %d bytes are live, at most %d may be", what, want.live, b)
	}
	if len(w.live(either)) == 0 && want.live != 0 {
		w.t.Fatalf("%s: U5: all handles are released, and %d bytes are live", what, want.live)
	}
	for i, s := range w.stores {
		of := fmt.Sprintf("%s (store %d)", what, i)
		if n := s.Live(); n != want.live {
			w.t.Fatalf("%s: P14.7: Live = %d, want %d", of, n, want.live)
		}
		like(w.t, of, s.Arena(), want)
		w.lists(of, s)
	}
}

// wantHandles: by the row.
func (w *world) wantHandles() []int {
	var hs []int
	for _, x := range w.live(either) {
		hs = append(hs, x.h)
	}
	return hs
}

// wantHold: by the row.
func (w *world) wantHold() api.Hold {
	h := api.Hold{Over: w.over, Next: w.next}
	for _, x := range w.live(isMap) {
		h.Maps = append(h.Maps, api.Kept{Handle: x.h, Root: api.Root{Off: x.m.Off(), Layout: x.m.Layout()}})
	}
	return h
}

// lists: P14.7, P14.8, P14.10: the lists are what they must be, also behind somebody's writing into those that were told, and into the room behind them.
func (w *world) lists(what string, s *store.Store) {
	w.t.Helper()
	hold := w.wantHold()
	var roots []api.Root
	for _, k := range hold.Maps {
		roots = append(roots, k.Root)
	}
	for range 2 {
		hs, rs, h := s.Handles(), s.Roots(), s.Hold()
		if !slices.Equal(hs, w.wantHandles()) {
			w.t.Fatalf("%s: P14.7: Handles = %v, want %v", what, hs, w.wantHandles())
		}
		if !slices.Equal(rs, roots) {
			w.t.Fatalf("%s: P14.7: Roots = %v, want %v", what, rs, roots)
		}
		sameHold(w.t, what, h, hold)
		w.keep(s)
		spoil(hs, -7)
		spoil(rs, api.Root{Off: -7})
		spoil(h.Over, api.Over{Key: "spoilt"})
		spoil(h.Maps, api.Kept{Handle: -7})
	}
	if s.Arena() != s.Arena() || s.Oracle() != s.Oracle() || s.Arena() == nil || s.Oracle() == nil || s.Arena() == w.a {
		w.t.Fatalf("%s: P14.8: Arena or Oracle is another one than before", what)
	}
}

// spoil: all of the list is written over, the room behind it too.
func spoil[T any](list []T, with T) {
	list = list[:cap(list)]
	for i := range list {
		list[i] = with
	}
}

// keep: what the store tells now is looked at again later on.
func (w *world) keep(s *store.Store) {
	if len(w.told) >= 40 {
		return
	}
	n := told{handles: s.Handles(), roots: s.Roots(), hold: s.Hold()}
	n.wasHandles, n.wasRoots = slices.Clone(n.handles), slices.Clone(n.roots)
	n.wasHold = api.Hold{Over: slices.Clone(n.hold.Over), Next: n.hold.Next, Maps: slices.Clone(n.hold.Maps)}
	w.told = append(w.told, n)
}

// stays: P14.7, P14.10: the lists that were told are as they were told.
func (w *world) stays() {
	w.t.Helper()
	for _, n := range w.told {
		if !slices.Equal(n.handles, n.wasHandles) || !slices.Equal(n.roots, n.wasRoots) {
			w.t.Fatalf("P14.7: lists that were told have changed: %v, %v, were %v, %v", n.handles, n.roots, n.wasHandles, n.wasRoots)
		}
		sameHold(w.t, "a Hold that was told", n.hold, n.wasHold)
	}
	w.told = nil
}
