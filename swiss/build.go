package swiss

import (
	"slices"

	"larder/api"
	"larder/arena"
	"larder/dir"
	"larder/oracle"
	"larder/probe"
	"larder/table"
)

// undo: what takes back what has been built so far, a call each.
type undo []func() api.Errno

// run: all of it is taken back, the last first.
func (u undo) run() {
	for _, back := range slices.Backward(u) {
		back()
	}
}

// Make: an empty map; a hint above 8 makes room for that many keys.
func Make(a *arena.Arena, l api.Layout, o *oracle.Oracle, seed uint64, hint int) (Map, api.Errno) {
	if hint < 0 || hint > api.MaxHint {
		return Map{}, api.ErrHint
	}
	return build(a, l, o, seed, hint)
}

// build: an empty map with room for so many keys.
func build(a *arena.Arena, l api.Layout, o *oracle.Oracle, seed uint64, keys int) (m Map, e api.Errno) {
	off, e := a.Alloc(headerSize)
	if e != api.OK {
		return Map{}, e
	}
	m = At(a, l, o, off)
	m.write(api.MapStat{Seed: seed, Depth: noDir})
	if keys <= smallSlots {
		return m, api.OK
	}
	built := undo{m.Release}
	defer func() {
		if e != api.OK {
			built.run()
			m = Map{}
		}
	}()
	slots, depth := shape(keys, l.Cap)
	var offs []int
	for range 1 << depth {
		t, e := table.New(a, l, slots, depth)
		if e != api.OK {
			return m, e
		}
		built = append(built, t.Free)
		offs = append(offs, t.Off())
	}
	d, e := dir.New(a, offs...)
	if e != api.OK {
		return m, e
	}
	m.setDir(d)
	return m, api.OK
}

// shape: for so many keys, how many slots each table has, and how deep the directory is.
func shape(keys, limit int) (int, int) {
	slots := probe.Slots(keys)
	if slots == 0 { // more keys than one table may hold
		slots = api.MaxSlots
	}
	depth := 0
	for slots > limit && depth < api.MaxDepth {
		slots /= 2
		depth++
	}
	return slots, depth
}

// Clone: another map with the same keys.
func (m Map) Clone() (c Map, e api.Errno) {
	st, e := m.Stat()
	if e != api.OK {
		return Map{}, e
	}
	c, e = build(m.arena, m.lay, m.oracle, st.Seed, st.Used)
	if e != api.OK {
		return Map{}, e
	}
	built := undo{c.Release}
	defer func() {
		if e != api.OK {
			built.run()
			c = Map{}
		}
	}()
	for _, cell := range m.cells(st) {
		if _, e := c.put(m.hash(st, cell.Key), cell.Key, cell.Elem, cell.Birth); e != api.OK {
			return c, e
		}
	}
	c.set(birthsWord, st.Births)
	return c, api.OK
}

// Clear: there are none; the hash has that seed from now on.
func (m Map) Clear(seed uint64) api.Errno {
	st, e := m.Stat()
	if e != api.OK {
		return e
	}
	m.freeBelow(st)
	m.write(api.MapStat{Seed: seed, Births: st.Births, Epoch: st.Epoch + 1, Depth: noDir})
	return api.OK
}

// Release: all its blocks are free.
func (m Map) Release() api.Errno {
	st, e := m.Stat()
	if e != api.OK {
		return e
	}
	m.freeBelow(st)
	return m.arena.Free(m.off)
}

// freeBelow: all its blocks but the header are free.
func (m Map) freeBelow(st api.MapStat) {
	for _, b := range m.blocks(st) {
		b.Free()
	}
	if isWide(st) {
		m.dir(st).Free()
	}
}
