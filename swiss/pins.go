package swiss

import (
	"slices"

	"larder/api"
	"larder/small"
	"larder/table"
)

// blocks: all that a walk may stand on: the small block or the tables, then the retired ones.
func (m Map) blocks(st api.MapStat) []block {
	var list []block
	switch {
	case isWide(st):
		for _, t := range m.tables(st) {
			list = append(list, t)
		}
	case isSmall(st):
		list = append(list, m.small(st))
	}
	return append(list, m.retired(st)...)
}

// retired: the retired ones, the latest first. (What is no retired one ends the list, and one that comes again: a list that other hands have bent into a ring has an end, too.)
func (m Map) retired(st api.MapStat) []block {
	var list []block
	for off := st.Retired; off != 0 && find(list, off) < 0; {
		b, next := m.retiredAt(off)
		if b == nil {
			break
		}
		list = append(list, b)
		off = next
	}
	return list
}

// retiredAt: the retired one at off, and where the next one lies; nil: there is none.
func (m Map) retiredAt(off int) (block, int) {
	switch kind, _ := m.arena.Load(off, wordSize); kind {
	case api.KindSmallRetired:
		s := small.At(m.arena, m.lay, off)
		st, _ := s.Stat()
		return s, st.Next
	case api.KindTableRetired:
		t := table.At(m.arena, m.lay, off)
		st, _ := t.Stat()
		return t, st.Next
	}
	return nil, 0
}

// find: the number in the list of the block at off; -1: there is none.
func find(list []block, off int) int {
	return slices.IndexFunc(list, func(b block) bool { return b.Off() == off })
}

// Retired: the offsets of the retired ones, the latest first.
func (m Map) Retired() ([]int, api.Errno) {
	st, e := m.Stat()
	if e != api.OK {
		return nil, e
	}
	var offs []int
	for _, b := range m.retired(st) {
		offs = append(offs, b.Off())
	}
	return offs, api.OK
}

// Pin: a walk steps onto the table or small block at off.
func (m Map) Pin(off int) api.Errno {
	_, e := m.pin(off, 1)
	return e
}

// Unpin: a walk leaves the table or small block at off; a retired one that no walk stands on is free.
func (m Map) Unpin(off int) api.Errno {
	pins, e := m.pin(off, -1)
	if e != api.OK || pins > 0 {
		return e
	}
	return m.drop(off)
}

// pin: so many more walks stand on the table or small block at off: how many do now.
func (m Map) pin(off, by int) (int, api.Errno) {
	st, e := m.Stat()
	if e != api.OK {
		return 0, e
	}
	list := m.blocks(st)
	i := find(list, off)
	if i < 0 {
		return 0, api.ErrBlock
	}
	return list[i].Pin(by)
}

// drop: the one at off, if it is retired, is out of the list and free; the others stay in their order.
func (m Map) drop(off int) api.Errno {
	st, _ := m.Stat()
	list := m.retired(st)
	i := find(list, off)
	if i < 0 {
		return api.OK
	}
	next := 0
	if i+1 < len(list) {
		next = list[i+1].Off()
	}
	if i > 0 {
		list[i-1].SetNext(next)
	} else {
		m.set(retiredWord, next)
	}
	return list[i].Free()
}
