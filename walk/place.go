package walk

import (
	"larder/api"
	"larder/small"
	"larder/table"
)

// smallSlots: of a small block.
const smallSlots = 8

// place: what a walk may stand on: a table or a small block.
type place interface {
	Off() int
	Cell(slot int) (api.Cell, api.Errno)
}

// shape: how many slots a place has, and whether it is retired. Nothing has no slots.
func shape(p place) (slots int, retired bool, e api.Errno) {
	switch b := p.(type) {
	case table.Table:
		st, e := b.Stat()
		return st.Slots, st.Retired, e
	case small.Small:
		st, e := b.Stat()
		return smallSlots, st.Retired, e
	}
	return 0, false, api.OK
}

// stepOn: the walk stands on the place, and has all its slots ahead.
func (w *Walk) stepOn(p place) api.Errno {
	if e := w.m.Pin(p.Off()); e != api.OK {
		return e
	}
	w.on, w.looked = p, 0
	return api.OK
}

// leave: it stands on nothing, and its pin is taken back: a retired one that no other walk stands on is free.
func (w *Walk) leave() api.Errno {
	if e := w.m.Unpin(w.on.Off()); e != api.OK {
		return e
	}
	w.on = nil
	return api.OK
}

// look: the next pair of what the walk stands on; false: there is none left.
func (w *Walk) look() (api.Pair, bool, api.Errno) {
	slots, retired, e := shape(w.on)
	if e != api.OK {
		return api.Pair{}, false, e
	}
	for ; w.looked < slots; w.looked++ {
		p, yes, e := w.pair(w.slot(slots), retired)
		if e != api.OK {
			return api.Pair{}, false, e
		}
		if yes {
			w.looked++
			return p, true, api.OK
		}
	}
	return api.Pair{}, false, api.OK
}

// slot: the one whose turn it is. (The draw is cut down first, as the sum could wrap round.)
func (w *Walk) slot(slots int) int {
	n := uint64(slots)
	return int((w.two%n + uint64(w.looked)) % n)
}

// pair: what is yielded of a slot; false: nothing. A retired one shows its cells as they were, so of each the map is asked whether that life lasts, and for the elem of now.
func (w *Walk) pair(slot int, retired bool) (api.Pair, bool, api.Errno) {
	c, e := w.on.Cell(slot)
	if e != api.OK || c.Kind != api.CellFull || c.Birth >= w.limit {
		return api.Pair{}, false, e
	}
	if retired {
		now, e := w.m.Cell(c.Key)
		if e != api.OK || now.Kind != api.CellFull || now.Birth != c.Birth {
			return api.Pair{}, false, e
		}
		c = now
	}
	return api.Pair{Key: c.Key, Elem: c.Elem}, true, api.OK
}
