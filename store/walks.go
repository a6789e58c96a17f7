package store

import (
	"iter"

	"larder/api"
	"larder/walk"
)

// Open: a new walk over the map: its handle.
func (s *Store) Open(h int, one, two uint64) (int, api.Errno) {
	s.lock.Lock()
	defer s.lock.Unlock()
	t, e := s.findMap(h)
	if e != api.OK {
		return 0, e
	}
	w, e := walk.Open(t.m, one, two)
	if e != api.OK {
		return 0, e
	}
	opened := s.add(thing{walk: w, over: h})
	t.walks[opened] = struct{}{}
	return opened, api.OK
}

// Next: the walk's next pair; false: it is done.
func (s *Store) Next(h int) (api.Pair, bool, api.Errno) {
	s.lock.Lock()
	defer s.lock.Unlock()
	w, e := s.findWalk(h)
	if e != api.OK {
		return api.Pair{}, false, e
	}
	return w.Next()
}

// All: the map's pairs, as a walk with the draws 0 and 0 yields them. The lock is let go between two pairs, so that the loop's body, and others, may call the store.
func (s *Store) All(h int) iter.Seq2[string, string] {
	return func(yield func(string, string) bool) {
		w := s.begin(h)
		if w == nil {
			return
		}
		defer s.end(h, w)
		for {
			p, yes := s.step(h, w)
			if !yes || !yield(p.Key, p.Elem) {
				return
			}
		}
	}
}

// begin: the walk of a range over the map; nil: there is no such map.
func (s *Store) begin(h int) *walk.Walk {
	s.lock.Lock()
	defer s.lock.Unlock()
	t, e := s.findMap(h)
	if e != api.OK {
		return nil
	}
	w, _ := walk.Open(t.m, 0, 0)
	return w
}

// step: a range's next pair. (The walk of a released map is asked for nothing: another map may have its header's block by now.)
func (s *Store) step(h int, w *walk.Walk) (api.Pair, bool) {
	s.lock.Lock()
	defer s.lock.Unlock()
	if _, e := s.findMap(h); e != api.OK {
		return api.Pair{}, false
	}
	p, yes, _ := w.Next()
	return p, yes
}

// end: a range's walk stands on nothing. (With a released map it does not anyhow.)
func (s *Store) end(h int, w *walk.Walk) {
	s.lock.Lock()
	defer s.lock.Unlock()
	if _, e := s.findMap(h); e == api.OK {
		w.Close()
	}
}
