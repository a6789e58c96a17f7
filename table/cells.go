package table

import (
	"iter"

	"larder/api"
	"larder/ctrl"
	"larder/group"
	"larder/probe"
)

// Cell: what a slot holds.
func (t Table) Cell(slot int) (api.Cell, api.Errno) {
	st, e := t.Stat()
	switch {
	case e != api.OK:
		return api.Cell{}, e
	case slot < 0 || slot >= st.Slots:
		return api.Cell{}, api.ErrSlot
	}
	g, n := t.place(st, slot)
	return g.Cell(n)
}

// Group: the group of that number.
func (t Table) Group(i int) (group.Group, api.Errno) {
	st, e := t.Stat()
	switch {
	case e != api.OK:
		return group.Group{}, e
	case i < 0 || i >= st.Slots/perGroup:
		return group.Group{}, api.ErrSlot
	}
	return t.group(st.Groups, i), api.OK
}

// held: a full slot and its cell.
type held struct {
	slot int
	cell api.Cell
}

// Cells: the full slots in rising order, with what they hold. They are all read ahead of the first that is given, as the loop's body may change the table or free it.
func (t Table) Cells() iter.Seq2[int, api.Cell] {
	return func(yield func(int, api.Cell) bool) {
		for _, f := range t.full() {
			if !yield(f.slot, f.cell) {
				return
			}
		}
	}
}

// full: what the full slots hold, in rising order.
func (t Table) full() []held {
	var list []held
	for i, g := range t.groups() {
		for n, cell := range g.Cells() {
			list = append(list, held{i*perGroup + n, cell})
		}
	}
	return list
}

// groups: the groups in rising order; of a dead table none. (Nor where something else stands now, with a number there that no table has as its slots: the loop must end.)
func (t Table) groups() iter.Seq2[int, group.Group] {
	return func(yield func(int, group.Group) bool) {
		st, e := t.Stat()
		if e != api.OK || probe.Most(st.Slots) == 0 {
			return
		}
		for i := range st.Slots / perGroup {
			if !yield(i, t.group(st.Groups, i)) {
				return
			}
		}
	}
}

// AddLeft: so many more empty slots may be filled.
func (t Table) AddLeft(n int) api.Errno {
	st, e := t.Stat()
	if e != api.OK {
		return e
	}
	most := probe.Most(st.Slots) - t.taken()
	// Held against what is left to either bound, as the sum could wrap round.
	if n < -st.Left || n > most-st.Left {
		return api.ErrRoom
	}
	return t.set(leftWord, st.Left+n)
}

// taken: how many slots are full or deleted.
func (t Table) taken() int {
	n := 0
	for _, g := range t.groups() {
		w, _ := g.Word()
		n += perGroup - ctrl.MatchEmpty(w).Count()
	}
	return n
}
