package small

import (
	"iter"

	"larder/api"
	"larder/oracle"
	"larder/table"
)

// tableSlots: of the table that takes over: the least in which eight keys find room.
const tableSlots = 16

// Cell: what slot i holds.
func (s Small) Cell(i int) (api.Cell, api.Errno) {
	// Asked ahead of the group, which would refuse a wrong slot first.
	if _, e := s.Stat(); e != api.OK {
		return api.Cell{}, e
	}
	return s.group().Cell(i)
}

// held: a full slot and its cell.
type held struct {
	slot int
	cell api.Cell
}

// Cells: the full slots in rising order, with what they hold. They are all read ahead of the first that is given, as the loop's body may change the block or free it.
func (s Small) Cells() iter.Seq2[int, api.Cell] {
	return func(yield func(int, api.Cell) bool) {
		for _, f := range s.full() {
			if !yield(f.slot, f.cell) {
				return
			}
		}
	}
}

// full: what the full slots hold, in rising order; of a dead one nothing.
func (s Small) full() []held {
	if _, e := s.Stat(); e != api.OK {
		return nil
	}
	var list []held
	for i, cell := range s.group().Cells() {
		list = append(list, held{i, cell})
	}
	return list
}

// Promote: a new table of 16 slots and depth 0 with the same cells. The small one stays.
func (s Small) Promote(o *oracle.Oracle, seed uint64) (table.Table, api.Errno) {
	// Asked ahead of the table: for a dead one no block must have been taken.
	if _, e := s.Stat(); e != api.OK {
		return table.Table{}, e
	}
	t, e := table.New(s.arena, s.lay, tableSlots, 0)
	if e != api.OK {
		return table.Table{}, e
	}
	for _, cell := range s.Cells() {
		t.Put(o.Hash(seed, cell.Key), cell.Key, cell.Elem, cell.Birth)
	}
	return t, api.OK
}
