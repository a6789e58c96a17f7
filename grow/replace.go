package grow

import (
	"larder/api"
	"larder/oracle"
	"larder/table"
)

// Renew: a new table of the same size with the same cells. The old one stays.
func Renew(t table.Table, o *oracle.Oracle, seed uint64) (table.Table, api.Errno) {
	return resized(t, o, seed, 1)
}

// Double: a new table of twice the size with the same cells. The old one stays.
func Double(t table.Table, o *oracle.Oracle, seed uint64) (table.Table, api.Errno) {
	return resized(t, o, seed, 2)
}

// resized: a new table with so many times the slots and the same cells.
func resized(t table.Table, o *oracle.Oracle, seed uint64, times int) (table.Table, api.Errno) {
	st, e := t.Stat()
	if e != api.OK {
		return table.Table{}, e
	}
	fresh, e := table.New(t.Arena(), t.Layout(), times*st.Slots, st.Depth)
	if e != api.OK {
		return table.Table{}, e
	}
	for _, cell := range t.Cells() {
		put(fresh, o.Hash(seed, cell.Key), cell)
	}
	return fresh, api.OK
}

// Split: two new tables of the same size, one deeper, with the cells of either bit. The old one stays.
func Split(t table.Table, o *oracle.Oracle, seed uint64) (table.Table, table.Table, api.Errno) {
	st, e := t.Stat()
	if e != api.OK {
		return table.Table{}, table.Table{}, e
	}
	halves, e := pair(t, st)
	if e != api.OK {
		return table.Table{}, table.Table{}, e
	}
	for _, cell := range t.Cells() {
		h := o.Hash(seed, cell.Key)
		put(halves[oracle.Bit(h, st.Depth)], h, cell)
	}
	return halves[0], halves[1], api.OK
}

// pair: the two new tables of a split, the low one and the high one; both or none.
func pair(t table.Table, st api.TableStat) ([2]table.Table, api.Errno) {
	low, e := table.New(t.Arena(), t.Layout(), st.Slots, st.Depth+1)
	if e != api.OK {
		return [2]table.Table{}, e
	}
	both := false
	defer func() {
		if !both {
			low.Free()
		}
	}()
	high, e := table.New(t.Arena(), t.Layout(), st.Slots, st.Depth+1)
	if e != api.OK {
		return [2]table.Table{}, e
	}
	both = true
	return [2]table.Table{low, high}, api.OK
}

// put: what a full cell holds is put into a new table. It is never refused: the layout is the old one's, and a new table has room for all that an old one of its size can hold.
func put(t table.Table, h uint64, c api.Cell) {
	t.Put(h, c.Key, c.Elem, c.Birth)
}
