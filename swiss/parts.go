package swiss

import (
	"larder/api"
	"larder/dir"
	"larder/small"
	"larder/table"
)

const (
	noDir      = -1 // the depth of a map without a directory
	smallSlots = 8  // of a small block
)

// block: what a walk may stand on: a table or a small block.
type block interface {
	Off() int
	Pin(by int) (int, api.Errno)
	Retire(next int) api.Errno
	SetNext(next int) api.Errno
	Free() api.Errno
}

func isWide(st api.MapStat) bool { return st.Depth != noDir }

func isSmall(st api.MapStat) bool { return st.Depth == noDir && st.Root != 0 }

// small: the small block of a small map.
func (m Map) small(st api.MapStat) small.Small { return small.At(m.arena, m.lay, st.Root) }

// dir: the directory of a wide map.
func (m Map) dir(st api.MapStat) dir.Dir { return dir.At(m.arena, st.Root, st.Depth) }

// setDir: the map is wide, with this directory.
func (m Map) setDir(d dir.Dir) {
	m.set(rootWord, d.Off())
	m.set(depthWord, d.Depth())
}

// pick: the table of a hash, in a wide map. (A directory that isn't there picks the offset 0: what is asked of a table there is refused.)
func (m Map) pick(st api.MapStat, h uint64) table.Table {
	_, off, _ := m.dir(st).Pick(h)
	return table.At(m.arena, m.lay, off)
}

// tables: those of a wide map, in the order of their entries, each once.
func (m Map) tables(st api.MapStat) []table.Table {
	var list []table.Table
	for _, off := range m.dir(st).Tables() {
		list = append(list, table.At(m.arena, m.lay, off))
	}
	return list
}

// Slots: how many slots there are (8 of a small one; retired ones don't count).
func (m Map) Slots() (int, api.Errno) {
	st, e := m.Stat()
	switch {
	case e != api.OK:
		return 0, e
	case isSmall(st):
		return smallSlots, api.OK
	case !isWide(st):
		return 0, api.OK
	}
	slots := 0
	for _, t := range m.tables(st) {
		ts, _ := t.Stat()
		slots += ts.Slots
	}
	return slots, api.OK
}

// Small: its small block, if it has one.
func (m Map) Small() (small.Small, bool, api.Errno) {
	st, e := m.Stat()
	if e != api.OK || !isSmall(st) {
		return small.Small{}, false, e
	}
	return m.small(st), true, api.OK
}

// Dir: its directory, if it has one.
func (m Map) Dir() (dir.Dir, bool, api.Errno) {
	st, e := m.Stat()
	if e != api.OK || !isWide(st) {
		return dir.Dir{}, false, e
	}
	return m.dir(st), true, api.OK
}
