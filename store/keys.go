package store

import "larder/api"

// Get: the key's elem, and whether it is there.
func (s *Store) Get(h int, key string) (string, bool, api.Errno) {
	s.lock.Lock()
	defer s.lock.Unlock()
	t, e := s.findMap(h)
	if e != api.OK {
		return "", false, e
	}
	return t.m.Get(key)
}

// Put: the key has that elem: was it added?
func (s *Store) Put(h int, key, elem string) (bool, api.Errno) {
	s.lock.Lock()
	defer s.lock.Unlock()
	t, e := s.findMap(h)
	if e != api.OK {
		return false, e
	}
	return t.m.Put(key, elem)
}

// Delete: the key is there no more: was it?
func (s *Store) Delete(h int, key string) (bool, api.Errno) {
	s.lock.Lock()
	defer s.lock.Unlock()
	t, e := s.findMap(h)
	if e != api.OK {
		return false, e
	}
	return t.m.Delete(key)
}

// Len: how many keys there are.
func (s *Store) Len(h int) (int, api.Errno) {
	s.lock.Lock()
	defer s.lock.Unlock()
	t, e := s.findMap(h)
	if e != api.OK {
		return 0, e
	}
	return t.m.Len()
}

// Clear: there are none; the hash has that seed from now on.
func (s *Store) Clear(h int, seed uint64) api.Errno {
	s.lock.Lock()
	defer s.lock.Unlock()
	t, e := s.findMap(h)
	if e != api.OK {
		return e
	}
	return t.m.Clear(seed)
}

// Probes: how many groups a Get looks at.
func (s *Store) Probes(h int, key string) (int, api.Errno) {
	s.lock.Lock()
	defer s.lock.Unlock()
	t, e := s.findMap(h)
	if e != api.OK {
		return 0, e
	}
	return t.m.Probes(key)
}

// Slots: how many slots the map has.
func (s *Store) Slots(h int) (int, api.Errno) {
	s.lock.Lock()
	defer s.lock.Unlock()
	t, e := s.findMap(h)
	if e != api.OK {
		return 0, e
	}
	return t.m.Slots()
}
