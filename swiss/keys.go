package swiss

import (
	"iter"

	"larder/api"
	"larder/oracle"
)

// asked: the header, where the map is alive and the key has the width of its keys.
func (m Map) asked(key string) (api.MapStat, api.Errno) {
	st, e := m.Stat()
	switch {
	case e != api.OK:
		return api.MapStat{}, e
	case len(key) != m.lay.Key:
		return api.MapStat{}, api.ErrKeyWidth
	}
	return st, api.OK
}

// hash: a key's, with the map's seed.
func (m Map) hash(st api.MapStat, key string) uint64 { return m.oracle.Hash(st.Seed, key) }

// Cell: the key's cell; a cell of zeros: there is none.
func (m Map) Cell(key string) (api.Cell, api.Errno) {
	st, e := m.asked(key)
	if e != api.OK {
		return api.Cell{}, e
	}
	h := m.hash(st, key)
	switch {
	case isWide(st):
		return m.pick(st, h).Get(h, key)
	case isSmall(st):
		return m.small(st).Get(oracle.Tag(h), key)
	}
	return api.Cell{}, api.OK
}

// Get: the key's elem, and whether it is there.
func (m Map) Get(key string) (string, bool, api.Errno) {
	c, e := m.Cell(key)
	return c.Elem, c.Kind == api.CellFull, e
}

// Probes: how many groups a Get looks at.
func (m Map) Probes(key string) (int, api.Errno) {
	st, e := m.asked(key)
	switch {
	case e != api.OK:
		return 0, e
	case isWide(st):
		h := m.hash(st, key)
		return m.pick(st, h).Probes(h, key)
	case isSmall(st):
		return 1, api.OK
	}
	return 0, api.OK
}

// Delete: the key is there no more: was it?
func (m Map) Delete(key string) (bool, api.Errno) {
	st, e := m.asked(key)
	if e != api.OK {
		return false, e
	}
	was, e := m.takeOut(st, key)
	if was {
		m.set(usedWord, st.Used-1)
	}
	return was, e
}

// takeOut: the key is in no table and no small block of the map: was it? The header stays.
func (m Map) takeOut(st api.MapStat, key string) (bool, api.Errno) {
	h := m.hash(st, key)
	switch {
	case isWide(st):
		return m.pick(st, h).Delete(h, key)
	case isSmall(st):
		return m.small(st).Delete(oracle.Tag(h), key)
	}
	return false, api.OK
}

// cells: the full cells, in the map's own order.
func (m Map) cells(st api.MapStat) []api.Cell {
	var list []api.Cell
	switch {
	case isWide(st):
		for _, t := range m.tables(st) {
			list = appendCells(list, t.Cells())
		}
	case isSmall(st):
		list = appendCells(list, m.small(st).Cells())
	}
	return list
}

func appendCells(list []api.Cell, cells iter.Seq2[int, api.Cell]) []api.Cell {
	for _, c := range cells {
		list = append(list, c)
	}
	return list
}

// All: the pairs, table by table, slot by slot. They are all read ahead of the first that is given, as the loop's body may change the map or release it.
func (m Map) All() iter.Seq2[string, string] {
	return func(yield func(string, string) bool) {
		st, e := m.Stat()
		if e != api.OK {
			return
		}
		for _, c := range m.cells(st) {
			if !yield(c.Key, c.Elem) {
				return
			}
		}
	}
}
