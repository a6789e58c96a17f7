package walk_test

import (
	"fmt"
	"maps"
	"slices"

	"larder/api"
	"larder/walk"
)

// stroll: a walk, and how far it must have come, by the chapter's words; beside that a plain list of keys, for what holds of every walk.
type stroll struct {
	w            *walk.Walk
	x            *pair
	one, two     uint64
	limit, epoch int
	done         bool
	mode         string // "", "small", "large"
	entries      int    // of the directory, as the walk knows it
	start        int
	passed       int
	on           *plain
	slots        []int // those of what it stands on that are still to come

	lasting map[string]bool // the keys whose life has lasted since Open
	yielded map[string]bool
	keys    int // how many there were at Open
	nexts   int
}

// open: a walk over the map.
func (w *world) open(x *pair, one, two uint64) *stroll {
	w.t.Helper()
	what := fmt.Sprintf("P13.1: Open with the draws %d, %d", one, two)
	v, e := walk.Open(x.m, one, two)
	answers(w.t, what, e, api.OK)
	if v == nil || v.Done() {
		w.t.Fatalf("%s: the walk is nil, or done", what)
	}
	s := &stroll{w: v, x: x, one: one, two: two, limit: x.p.births, epoch: x.p.epoch,
		lasting: map[string]bool{}, yielded: map[string]bool{}, keys: len(x.p.pairs)}
	for k := range x.p.pairs {
		s.lasting[k] = true
	}
	w.walks = append(w.walks, s)
	w.holds(what, x)
	return s
}

// dies: the life of a key of the map ends.
func (w *world) dies(x *pair, key string) {
	for _, s := range w.walks {
		if s.x == x {
			delete(s.lasting, key)
		}
	}
}

// over: the walks of the map that are not done.
func (w *world) over(x *pair) []*stroll {
	return slices.DeleteFunc(slices.Clone(w.walks), func(s *stroll) bool { return s.x != x })
}

// stop: the walk is done. (What is pinned is the caller's business.)
func (w *world) stop(s *stroll) {
	s.done, s.on = true, nil
	w.walks = slices.DeleteFunc(w.walks, func(v *stroll) bool { return v == s })
}

// enter: the walk stands on it: it looks at the slots from the draw on, and then at those ahead of that.
func (s *stroll) enter(p *plain) {
	p.pins++
	s.on = p
	n := len(p.cells)
	first := int(s.two % uint64(n))
	s.slots = nil
	for i := first; i < n; i++ {
		s.slots = append(s.slots, i)
	}
	for i := range first {
		s.slots = append(s.slots, i)
	}
}

// left: the walk leaves what it stands on.
func (w *world) left(s *stroll) {
	p := s.on
	s.on = nil
	p.pins--
	i := slices.Index(s.x.p.retired, p)
	if p.pins == 0 && i >= 0 {
		w.g.drop(p.offs()...)
		s.x.p.retired = slices.Delete(s.x.p.retired, i, i+1)
		w.g.steps["freed behind its last walk"]++
	}
}

// wanted: what Next must answer, and what it must do.
func (w *world) wanted(s *stroll) (api.Pair, bool) {
	m := s.x.p
	switch {
	case s.done:
		return api.Pair{}, false
	case m.epoch != s.epoch:
		w.g.steps["a walk over a cleared map"]++
		w.stop(s)
		return api.Pair{}, false
	case s.mode == "" && m.block != nil:
		s.mode = "small"
		s.enter(m.block)
	case s.mode == "" && m.entries != nil:
		s.mode, s.entries = "large", len(m.entries)
		s.start = slices.Index(m.entries, m.entries[s.one%uint64(len(m.entries))])
	}
	for {
		if s.on == nil && !w.forward(s) {
			w.stop(s)
			return api.Pair{}, false
		}
		for len(s.slots) > 0 {
			c := s.on.cells[s.slots[0]]
			s.slots = s.slots[1:]
			if p, yes := w.shown(s, c); yes {
				return p, true
			}
		}
		w.left(s)
	}
}

// forward: the walk steps onto the next table, if there is one.
func (w *world) forward(s *stroll) bool {
	if s.mode != "large" {
		return false
	}
	m := s.x.p
	for s.entries < len(m.entries) {
		s.entries, s.start, s.passed = 2*s.entries, 2*s.start, 2*s.passed
		w.g.steps["a walk in a widened directory"]++
	}
	if s.passed >= s.entries {
		return false
	}
	p := m.entries[(s.start+s.passed)%s.entries]
	for _, q := range m.entries {
		if p == q {
			s.passed++
		}
	}
	s.enter(p)
	return true
}

// shown: what the walk shows of a cell of what it stands on.
func (w *world) shown(s *stroll, c api.Cell) (api.Pair, bool) {
	if c.Kind != api.CellFull {
		return api.Pair{}, false
	}
	if c.Birth >= s.limit {
		w.g.steps["a cell too young"]++
		return api.Pair{}, false
	}
	if slices.Contains(s.x.p.retired, s.on) {
		now := s.x.p.cell(c.Key)
		if now == nil || now.Birth != c.Birth {
			w.g.steps["a retired cell whose life is over"]++
			return api.Pair{}, false
		}
		w.g.steps["a retired cell"]++
		c = *now
	}
	return api.Pair{Key: c.Key, Elem: c.Elem}, true
}

// next: a Next, and all that it must have done: the pair, and whether there is one.
func (w *world) next(s *stroll) (api.Pair, bool) {
	w.t.Helper()
	want, yes := w.wanted(s)
	what := fmt.Sprintf("P13.2: Next number %d of the draws %d, %d", s.nexts+1, s.one, s.two)
	p, now, e := s.w.Next()
	if p != want || now != yes || e != api.OK {
		w.t.Fatalf("%s = %.60q, %v, error %d, want %.60q, %v", what, p, now, e, want, yes)
	}
	if s.w.Done() != s.done {
		w.t.Fatalf("%s: P13.3: Done is %v, want %v", what, s.w.Done(), s.done)
	}
	s.nexts++
	w.once(what, s, p, now)
	w.holds(what)
	return p, now
}

// once: P13.6 and P13.7, by the plain lists alone.
func (w *world) once(what string, s *stroll, p api.Pair, yes bool) {
	w.t.Helper()
	if !yes {
		for k := range s.lasting {
			if !s.yielded[k] {
				w.t.Fatalf("%s: P13.6: %.12q was there from Open to the end, and is not yielded", what, k)
			}
		}
		return
	}
	elem, there := s.x.p.pairs[p.Key]
	switch {
	case s.yielded[p.Key]:
		w.t.Fatalf("%s: P13.6: %.12q is yielded twice", what, p.Key)
	case !s.lasting[p.Key]:
		w.t.Fatalf("%s: P13.6: the life of %.12q began behind Open", what, p.Key)
	case !there || elem != p.Elem:
		w.t.Fatalf("%s: P13.6: %.12q is yielded with %.12q, the map has %.12q, %v", what, p.Key, p.Elem, elem, there)
	case s.nexts > s.keys:
		w.t.Fatalf("%s: P13.7: a pair is yielded, of a map of %d keys", what, s.keys)
	}
	s.yielded[p.Key] = true
}

// close: a Close: the walk is done, and what it stood on is left.
func (w *world) close(s *stroll) {
	w.t.Helper()
	if !s.done {
		if s.on != nil && s.epoch == s.x.p.epoch {
			w.left(s)
		}
		w.stop(s)
		clear(s.lasting) // one that was closed need not have yielded all
	}
	answers(w.t, "P13.4: Close", s.w.Close(), api.OK)
	if !s.w.Done() {
		w.t.Fatal("P13.4: behind Close a walk is not done")
	}
	w.holds("P13.4: Close")
}

// through: the walk to its end: the pairs, in their order.
func (w *world) through(s *stroll) []api.Pair {
	w.t.Helper()
	var list []api.Pair
	for {
		p, yes := w.next(s)
		if !yes {
			return list
		}
		list = append(list, p)
	}
}

// unpinned: P13.8: without walks nothing of the map is pinned, and nothing retired. (The bytes are told by the picture; this is told by the plain map that the picture is of.)
func (w *world) unpinned(x *pair) {
	w.t.Helper()
	for _, p := range x.p.current() {
		if p.pins != 0 {
			w.t.Fatalf("P13.8: what lies at %d has %d pins, and all walks are done", p.off, p.pins)
		}
	}
	if l, e := x.m.Retired(); len(l) != 0 || e != api.OK {
		w.t.Fatalf("P13.8: Retired = %v, error %d, and all walks are done", l, e)
	}
}

// pairsOf: a list of pairs as a map.
func pairsOf(list []api.Pair) map[string]string {
	m := map[string]string{}
	for _, p := range list {
		m[p.Key] = p.Elem
	}
	return m
}

// sameAs: all the map's pairs, each once, in whatever order.
func (w *world) sameAs(what string, list []api.Pair, x *pair) {
	w.t.Helper()
	if len(list) != len(x.p.pairs) || !maps.Equal(pairsOf(list), x.p.pairs) {
		w.t.Fatalf("%s: the walk yields %.200q, want %.200q", what, list, x.p.pairs)
	}
}
