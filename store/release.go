package store

import (
	"slices"

	"larder/api"
)

// Release: the handles are dead, and the walks of released maps too; all or nothing.
func (s *Store) Release(hs ...int) api.Errno {
	s.lock.Lock()
	defer s.lock.Unlock()
	if e := s.refused(hs); e != api.OK {
		return e
	}
	for _, h := range hs {
		switch t, e := s.find(h); {
		case e != api.OK: // a walk whose map was named ahead of it is gone by now
		case t.walk != nil:
			s.dropWalk(h, t)
		default:
			s.dropMap(h, t)
		}
	}
	return api.OK
}

// refused: why these handles can't be released together; OK: they can.
func (s *Store) refused(hs []int) api.Errno {
	for _, h := range hs {
		if _, e := s.find(h); e != api.OK {
			return e
		}
	}
	rising := slices.Sorted(slices.Values(hs))
	if len(slices.Compact(rising)) < len(hs) {
		return api.ErrAgain
	}
	return api.OK
}

// dropWalk: the walk stands on nothing, and its handle is dead.
func (s *Store) dropWalk(h int, t thing) {
	t.walk.Close()
	s.takeOut(h)
	m, _ := s.find(t.over) // it is there: a map takes its walks along
	delete(m.walks, h)
}

// dropMap: the map is released, and its handle is dead, and those of its walks. (They need not be closed: what they stood on is free.)
func (s *Store) dropMap(h int, t thing) {
	for w := range t.walks {
		s.takeOut(w)
	}
	t.m.Release()
	s.takeOut(h)
}
