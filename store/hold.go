package store

import (
	"larder/api"
	"larder/arena"
	"larder/layout"
	"larder/swiss"
)

const (
	headerSize = 64      // bytes of a map's header
	maxNext    = 1 << 62 // the greatest next handle that a hold may tell
)

// kept: the maps, by their rising handles.
func (s *Store) kept() []api.Kept {
	var list []api.Kept
	for _, h := range s.handles() {
		if t, e := s.findMap(h); e == api.OK {
			list = append(list, api.Kept{Handle: h, Root: api.Root{Off: t.m.Off(), Layout: t.m.Layout()}})
		}
	}
	return list
}

// Roots: the maps that are not released, in their handles' order.
func (s *Store) Roots() []api.Root {
	s.lock.Lock()
	defer s.lock.Unlock()
	var roots []api.Root
	for _, k := range s.kept() {
		roots = append(roots, k.Root)
	}
	return roots
}

// Hold: what the store keeps beside its arena; walks are not told.
func (s *Store) Hold() api.Hold {
	s.lock.Lock()
	defer s.lock.Unlock()
	return api.Hold{Over: copied(s.over), Next: s.next, Maps: s.kept()}
}

// Restore: a store that holds this, in that arena.
func Restore(h api.Hold, a *arena.Arena) (*Store, api.Errno) {
	s, e := within(a, h.Next, h.Over)
	if e != api.OK {
		return nil, e
	}
	if !possible(h, a) {
		return nil, api.ErrHold
	}
	for _, k := range h.Maps {
		s.keep(k.Handle, mapThing(swiss.At(a, k.Root.Layout, s.oracle, k.Root.Off)))
	}
	return s, api.OK
}

// possible: can a store in that arena tell this hold?
func possible(h api.Hold, a *arena.Arena) bool {
	if h.Next < 1 || h.Next > maxNext {
		return false
	}
	last := 0
	at := map[int]int{} // the handles of the maps so far, by their offsets
	for _, k := range h.Maps {
		if k.Handle <= last || k.Handle >= h.Next || !couldBeMap(k.Root, a) {
			return false
		}
		if at[k.Root.Off] > 0 {
			return false
		}
		last, at[k.Root.Off] = k.Handle, k.Handle
	}
	return true
}

// couldBeMap: has it a layout, and a block like a map's header?
func couldBeMap(r api.Root, a *arena.Arena) bool {
	size, _ := a.Size(r.Off)
	return size == headerSize && layout.Valid(r.Layout)
}
