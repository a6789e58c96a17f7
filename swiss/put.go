package swiss

import (
	"larder/api"
	"larder/dir"
	"larder/grow"
	"larder/oracle"
	"larder/small"
	"larder/table"
)

// Put: the key has that elem: was it added?
func (m Map) Put(key, elem string) (bool, api.Errno) {
	st, e := m.asked(key)
	switch {
	case e != api.OK:
		return false, e
	case len(elem) != m.lay.Elem:
		return false, api.ErrElemWidth
	}
	added, e := m.put(m.hash(st, key), key, elem, st.Births)
	if added {
		m.set(birthsWord, st.Births+1)
	}
	return added, e
}

// put: the key has that elem: was it added, with that birth? The births stay: a clone's keys bring theirs along. (It ends: each round that finds no room makes some, or makes a table deeper or greater, and there is a bound to both.)
func (m Map) put(h uint64, key, elem string, birth int) (bool, api.Errno) {
	for {
		st, _ := m.Stat() // the callers have asked whether it is alive
		out, e := m.try(st, h, key, elem, birth)
		switch {
		case e != api.OK:
			return false, e
		case out == api.PutAdded:
			m.set(usedWord, st.Used+1)
			return true, api.OK
		case out == api.PutReplaced:
			return false, api.OK
		}
		if e := m.makeRoom(st, h); e != api.OK {
			return false, e
		}
	}
}

// try: the outcome of a put into the map as it is, without growth.
func (m Map) try(st api.MapStat, h uint64, key, elem string, birth int) (int, api.Errno) {
	switch {
	case isWide(st):
		return m.pick(st, h).Put(h, key, elem, birth)
	case isSmall(st):
		return m.small(st).Put(oracle.Tag(h), key, elem, birth)
	}
	return api.PutNoRoom, api.OK
}

// makeRoom: the steps that a put without room takes ahead of its next try. Each is whole, or has done nothing.
func (m Map) makeRoom(st api.MapStat, h uint64) api.Errno {
	switch {
	case isWide(st):
		return m.growTable(st, h)
	case isSmall(st):
		return m.promote(st)
	}
	s, e := small.New(m.arena, m.lay)
	if e == api.OK {
		m.set(rootWord, s.Off())
	}
	return e
}

// promote: a small map becomes a wide one, of one table.
func (m Map) promote(st api.MapStat) api.Errno {
	s := m.small(st)
	t, e := s.Promote(m.oracle, st.Seed)
	if e != api.OK {
		return e
	}
	d, e := dir.New(m.arena, t.Off())
	if e != api.OK {
		t.Free()
		return e
	}
	m.setDir(d)
	return m.dispose(s)
}

// growTable: the table of a hash gets room, or is replaced.
func (m Map) growTable(st api.MapStat, h uint64) api.Errno {
	t := m.pick(st, h)
	// The room was 0: it is above 0 just if marks are gone now.
	if pruned, e := grow.Prune(t, m.oracle, st.Seed); e != api.OK || pruned > 0 {
		return e
	}
	ts, _ := t.Stat()
	switch grow.Choose(ts, m.lay.Cap) {
	case api.GrowRenew:
		return m.replace(st, h, t, grow.Renew)
	case api.GrowDouble:
		return m.replace(st, h, t, grow.Double)
	case api.GrowSplit:
		return m.split(st, h, t)
	}
	return api.ErrDead // no table has such numbers
}

// step: how one table is made of another: Renew, Double.
type step func(t table.Table, o *oracle.Oracle, seed uint64) (table.Table, api.Errno)

// replace: the table that the step makes stands at all entries of the old one.
func (m Map) replace(st api.MapStat, h uint64, old table.Table, by step) api.Errno {
	fresh, e := by(old, m.oracle, st.Seed)
	if e != api.OK {
		return e
	}
	d := m.dir(st)
	entry, _, _ := d.Pick(h)
	ts, _ := old.Stat()
	d.Place(entry, ts.Depth, fresh.Off())
	return m.dispose(old)
}

// split: two tables stand at the entries of the old one, each at a half of them. The directory is widened first, where the old one has just one.
func (m Map) split(st api.MapStat, h uint64, old table.Table) api.Errno {
	d := m.dir(st)
	ts, _ := old.Stat()
	if ts.Depth == d.Depth() {
		w, e := d.Widen()
		if e != api.OK {
			return e
		}
		m.setDir(w)
		d = w
	}
	low, high, e := grow.Split(old, m.oracle, st.Seed)
	if e != api.OK {
		return e
	}
	entry, _, _ := d.Pick(h)
	first, n, _ := d.Run(entry, ts.Depth)
	d.Place(first, ts.Depth+1, low.Off())
	d.Place(first+n/2, ts.Depth+1, high.Off())
	return m.dispose(old)
}

// dispose: a table or small block that has been replaced is free, or, where a walk stands on it, the first of the retired ones.
func (m Map) dispose(b block) api.Errno {
	pins, e := b.Pin(0)
	if e != api.OK {
		return e
	}
	if pins == 0 {
		return b.Free()
	}
	st, _ := m.Stat()
	m.set(retiredWord, b.Off())
	return b.Retire(st.Retired)
}
