package small

import "larder/api"

// keyed: the header, for a call that names a key; of the errors, those that come ahead of the others: a dead one's, the key's width.
func (s Small) keyed(key string) (api.SmallStat, api.Errno) {
	st, e := s.Stat()
	if e == api.OK && len(key) != s.lay.Key {
		return api.SmallStat{}, api.ErrKeyWidth
	}
	return st, e
}

// slot: where a key of the right width lies; -1: it is not there. (The group refuses a wrong tag.)
func (s Small) slot(tag int, key string) (int, api.Errno) {
	i, e := s.group().Find(tag, key)
	if e == api.OK && i == slots {
		return -1, api.OK
	}
	return i, e
}

// empty: the lowest empty slot; -1: all are full.
func (s Small) empty() int {
	g := s.group()
	for i := range slots {
		if cell, _ := g.Cell(i); cell.Kind == api.CellEmpty {
			return i
		}
	}
	return -1
}

// Find: the key's slot; -1: there is none.
func (s Small) Find(tag int, key string) (int, api.Errno) {
	if _, e := s.keyed(key); e != api.OK {
		return 0, e
	}
	return s.slot(tag, key)
}

// Get: the key's cell; a cell of zeros: there is none.
func (s Small) Get(tag int, key string) (api.Cell, api.Errno) {
	i, e := s.Find(tag, key)
	if e != api.OK || i < 0 {
		return api.Cell{}, e
	}
	return s.group().Cell(i)
}

// Put: the key has that elem; an added one that tag and birth: the outcome.
func (s Small) Put(tag int, key, elem string, birth int) (int, api.Errno) {
	st, e := s.keyed(key)
	switch {
	case e != api.OK:
		return api.PutNothing, e
	case len(elem) != s.lay.Elem:
		return api.PutNothing, api.ErrElemWidth
	}
	i, e := s.slot(tag, key)
	switch {
	case e != api.OK:
		return api.PutNothing, e
	case birth < 0:
		return api.PutNothing, api.ErrBirth
	case i >= 0:
		return api.PutReplaced, s.group().SetElem(i, elem)
	}
	i = s.empty()
	if i < 0 {
		return api.PutNoRoom, api.OK
	}
	s.group().Fill(i, tag, key, elem, birth)
	return api.PutAdded, s.set(usedWord, st.Used+1)
}

// Delete: the key is there no more: was it?
func (s Small) Delete(tag int, key string) (bool, api.Errno) {
	st, e := s.keyed(key)
	if e != api.OK {
		return false, e
	}
	i, e := s.slot(tag, key)
	if e != api.OK || i < 0 {
		return false, e
	}
	// No mark is left: with one group no search goes on past a slot.
	s.group().Erase(i, false)
	return true, s.set(usedWord, st.Used-1)
}
