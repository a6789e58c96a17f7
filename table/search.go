package table

import (
	"larder/api"
	"larder/ctrl"
	"larder/group"
	"larder/oracle"
	"larder/probe"
)

// sought: what a search for a key has seen.
type sought struct {
	stat   api.TableStat // the header
	probes int           // the groups that were looked at
	slot   int           // the key's; -1: it is not there
	cell   api.Cell      // what that slot holds
	vacant int           // the first slot on the way that is empty or deleted; -1: none was met
	empty  bool          // is that one empty?
}

// search: goes the way of the hash, up to the key or to the way's end.
func (t Table) search(h uint64, key string) (sought, api.Errno) {
	st, e := t.Stat()
	switch {
	case e != api.OK:
		return sought{}, e
	case len(key) != t.lay.Key:
		return sought{}, api.ErrKeyWidth
	}
	s := sought{stat: st, slot: -1, vacant: -1}
way:
	for i := range probe.Order(oracle.Home(h), st.Slots/perGroup) {
		g := t.group(st.Groups, i)
		w, e := g.Word()
		if e != api.OK {
			return sought{}, e
		}
		s.probes++
		for n := range ctrl.Match(w, oracle.Tag(h)).All() {
			if cell, _ := g.Cell(n); cell.Key == key {
				s.slot, s.cell = i*perGroup+n, cell
				break way
			}
		}
		s.meet(w, i)
		// Puts take the first vacant slot of the way, so behind an empty one the key can't be.
		if hasEmpty(w) {
			break way
		}
	}
	return s, api.OK
}

// meet: notes the first vacant slot of the group of that number, if none was met ahead of it.
func (s *sought) meet(w uint64, i int) {
	n := ctrl.MatchVacant(w).First()
	if s.vacant < 0 && n < perGroup {
		s.vacant = i*perGroup + n
		s.empty = ctrl.MatchEmpty(w).Has(n)
	}
}

// hasEmpty: has a group with that control word an empty slot?
func hasEmpty(w uint64) bool { return ctrl.MatchEmpty(w).Count() > 0 }

// Find: the slot of the key with that hash; -1: there is none.
func (t Table) Find(h uint64, key string) (int, api.Errno) {
	s, e := t.search(h, key)
	return s.slot, e
}

// Get: the cell of the key with that hash; a cell of zeros: there is none.
func (t Table) Get(h uint64, key string) (api.Cell, api.Errno) {
	s, e := t.search(h, key)
	return s.cell, e
}

// Probes: how many groups Find looks at.
func (t Table) Probes(h uint64, key string) (int, api.Errno) {
	s, e := t.search(h, key)
	return s.probes, e
}

// Put: the key with that hash has that elem; an added one that birth: the outcome.
func (t Table) Put(h uint64, key, elem string, birth int) (int, api.Errno) {
	s, e := t.search(h, key)
	switch {
	case e != api.OK:
		return api.PutNothing, e
	case len(elem) != t.lay.Elem:
		return api.PutNothing, api.ErrElemWidth
	case birth < 0:
		return api.PutNothing, api.ErrBirth
	case s.slot >= 0:
		g, n := t.place(s.stat, s.slot)
		return api.PutReplaced, g.SetElem(n, elem)
	case s.vacant < 0 || s.empty && s.stat.Left <= 0:
		return api.PutNoRoom, api.OK
	}
	g, n := t.place(s.stat, s.vacant)
	g.Fill(n, oracle.Tag(h), key, elem, birth)
	if s.empty {
		t.set(leftWord, s.stat.Left-1)
	}
	return api.PutAdded, t.set(usedWord, s.stat.Used+1)
}

// Delete: the key with that hash is there no more: was it?
func (t Table) Delete(h uint64, key string) (bool, api.Errno) {
	s, e := t.search(h, key)
	if e != api.OK || s.slot < 0 {
		return false, e
	}
	g, n := t.place(s.stat, s.slot)
	w, _ := g.Word()
	// Where a way ends anyhow no mark is needed; elsewhere searches must still go past this slot.
	ends := hasEmpty(w)
	g.Erase(n, !ends)
	if ends {
		t.set(leftWord, s.stat.Left+1)
	}
	return true, t.set(usedWord, s.stat.Used-1)
}

// place: the group of a slot of the table, and which of its slots it is.
func (t Table) place(st api.TableStat, slot int) (group.Group, int) {
	return t.group(st.Groups, slot/perGroup), slot % perGroup
}
