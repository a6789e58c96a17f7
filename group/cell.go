package group

import (
	"strings"

	"larder/api"
	"larder/ctrl"
	"larder/layout"
)

// Cell: what slot i holds.
func (g Group) Cell(i int) (api.Cell, api.Errno) {
	if !isSlot(i) {
		return api.Cell{}, api.ErrSlot
	}
	w, e := g.Word()
	if e != api.OK {
		return api.Cell{}, e
	}
	switch c := ctrl.Get(w, i); {
	case isTag(c):
		return g.full(i, c), api.OK
	case c == deletedMark:
		return api.Cell{Kind: api.CellDeleted}, api.OK
	}
	return api.Cell{Kind: api.CellEmpty}, api.OK
}

// full: the cell in slot i, which is full with that tag.
func (g Group) full(i, tag int) api.Cell {
	elem, _ := g.arena.Read(g.off+layout.ElemAt(g.lay, i), g.lay.Elem)
	birth, _ := g.arena.Load(g.off+layout.BirthAt(g.lay, i), wordSize)
	return api.Cell{Kind: api.CellFull, Tag: tag, Key: g.key(i), Elem: elem, Birth: int(birth)}
}

// key: the bytes of slot i's key.
func (g Group) key(i int) string {
	key, _ := g.arena.Read(g.slotAt(i), g.lay.Key)
	return key
}

// slotAt: where slot i begins: with its key.
func (g Group) slotAt(i int) int { return g.off + layout.KeyAt(g.lay, i) }

// Fill: slot i is full.
func (g Group) Fill(i, tag int, key, elem string, birth int) api.Errno {
	switch {
	case !isSlot(i):
		return api.ErrSlot
	case !isTag(tag):
		return api.ErrTag
	case len(key) != g.lay.Key:
		return api.ErrKeyWidth
	case len(elem) != g.lay.Elem:
		return api.ErrElemWidth
	case birth < 0:
		return api.ErrBirth
	}
	w, e := g.Word()
	if e != api.OK {
		return e
	}
	// One Write of the whole slot, its gaps too: what lay there may have been anything.
	behindKey := g.lay.ElemOff - g.lay.Key
	behindElem := g.lay.BirthOff - g.lay.ElemOff - g.lay.Elem
	g.arena.Write(g.slotAt(i), key, zeros(behindKey), elem, zeros(behindElem), birthBytes(birth))
	return g.setWord(ctrl.Set(w, i, tag))
}

// SetElem: slot i's elem.
func (g Group) SetElem(i int, elem string) api.Errno {
	switch {
	case !isSlot(i):
		return api.ErrSlot
	case len(elem) != g.lay.Elem:
		return api.ErrElemWidth
	}
	w, e := g.Word()
	if e != api.OK {
		return e
	}
	if !ctrl.MatchFull(w).Has(i) {
		return api.ErrVacant
	}
	return g.arena.Write(g.off+layout.ElemAt(g.lay, i), elem)
}

// Erase: slot i is empty (or deleted), its bytes zero.
func (g Group) Erase(i int, deleted bool) api.Errno {
	if !isSlot(i) {
		return api.ErrSlot
	}
	w, e := g.Word()
	if e != api.OK {
		return e
	}
	mark := emptyMark
	if deleted {
		mark = deletedMark
	}
	g.arena.Fill(g.slotAt(i), g.lay.Slot, 0)
	return g.setWord(ctrl.Set(w, i, mark))
}

// zeros: a gap of n bytes.
func zeros(n int) string { return strings.Repeat("\x00", n) }

// birthBytes: the eight bytes of a birth, the lowest first, as the arena's Load reads them.
func birthBytes(birth int) string {
	var b [wordSize]byte
	for i := range b {
		b[i] = byte(birth >> (8 * i))
	}
	return string(b[:])
}
