package walk_test

import (
	"slices"

	"larder/api"
	"larder/oracle"
)

// steps: how often each step was done or refused, so that a run in which little happens is told.
type steps map[string]int

// ground: where plain maps lie.
type ground struct {
	heap
	steps steps
}

// ended: a step was done, or refused for memory.
func (g *ground) ended(step string, done bool) api.Errno {
	if !done {
		g.steps[step+" refused"]++
		return api.ErrMemory
	}
	g.steps[step]++
	return api.OK
}

func (g *ground) newSmall(l api.Layout) (*plain, bool) {
	offs, ok := g.take(32 + l.Group)
	if !ok {
		return nil, false
	}
	return &plain{off: offs[0], small: true, cells: make([]api.Cell, 8)}, true
}

func (g *ground) newTable(l api.Layout, slots, depth int) (*plain, bool) {
	offs, ok := g.take(64, slots/8*l.Group)
	if !ok {
		return nil, false
	}
	return &plain{off: offs[0], groups: offs[1], cells: make([]api.Cell, slots), left: most[slots], depth: depth}, true
}

// build: a map with room for so many keys.
func (g *ground) build(l api.Layout, o *oracle.Oracle, seed uint64, keys int) (*pmap, api.Errno) {
	offs, ok := g.take(64)
	if !ok {
		return nil, api.ErrMemory
	}
	m := &pmap{off: offs[0], l: l, o: o, seed: seed, pairs: map[string]string{}}
	if keys <= 8 {
		return m, api.OK
	}
	n := 16
	for most[n] < keys && n < 65536 {
		n *= 2
	}
	d := 0
	for n>>d > l.Cap && d < 6 {
		d++
	}
	taken := []int{m.off}
	for range 1 << d {
		t, ok := g.newTable(l, n>>d, d)
		if !ok {
			g.drop(taken...)
			return nil, api.ErrMemory
		}
		taken = append(taken, t.offs()...)
		m.entries = append(m.entries, t)
	}
	offs, ok = g.take(8 << d)
	if !ok {
		g.drop(taken...)
		return nil, api.ErrMemory
	}
	m.dirOff = offs[0]
	return m, api.OK
}

// put: the key has that elem: was it added, with that birth?
func (g *ground) put(m *pmap, key, elem string, birth int) (bool, api.Errno) {
	if c := m.cell(key); c != nil {
		c.Elem = elem
		return false, api.OK
	}
	if m.root() == 0 {
		s, ok := g.newSmall(m.l)
		if e := g.ended("small block", ok); e != api.OK {
			return false, e
		}
		m.block = s
	}
	if m.block != nil {
		if m.block.add(m.of(key), key, elem, birth) {
			return true, api.OK
		}
		if e := g.promote(m); e != api.OK {
			return false, e
		}
	}
	for !m.at(key).add(m.of(key), key, elem, birth) {
		if e := g.room(m, m.at(key)); e != api.OK {
			return false, e
		}
	}
	return true, api.OK
}

// moved: the cells are put into the tables that a function picks by their hash.
func moved(m *pmap, from *plain, to func(h uint64) *plain) {
	for _, c := range from.fulls() {
		h := m.of(c.Key)
		to(h).add(h, c.Key, c.Elem, c.Birth)
	}
}

func (g *ground) promote(m *pmap) api.Errno {
	t, ok := g.newTable(m.l, 16, 0)
	if e := g.ended("first table", ok); e != api.OK {
		return e
	}
	offs, ok := g.take(8)
	if e := g.ended("first directory", ok); e != api.OK {
		g.drop(t.offs()...)
		return e
	}
	moved(m, m.block, func(uint64) *plain { return t })
	old := m.block
	m.block, m.entries, m.dirOff = nil, []*plain{t}, offs[0]
	g.dispose(m, old)
	return api.OK
}

// room: one of W5's steps.
func (g *ground) room(m *pmap, t *plain) api.Errno {
	t.prune(m.of)
	used, slots := len(t.fulls()), len(t.cells)
	switch {
	case t.left > 0:
		return g.ended("prune", true)
	case 2*used <= most[slots]:
		return g.replace(m, t, slots, "renewal")
	case 2*slots <= m.l.Cap:
		return g.replace(m, t, 2*slots, "doubling")
	case t.depth < 6:
		return g.split(m, t)
	}
	return g.replace(m, t, 2*slots, "doubling above the cap")
}

func (g *ground) replace(m *pmap, t *plain, slots int, step string) api.Errno {
	fresh, ok := g.newTable(m.l, slots, t.depth)
	if e := g.ended(step, ok); e != api.OK {
		return e
	}
	moved(m, t, func(uint64) *plain { return fresh })
	for i, p := range m.entries {
		if p == t {
			m.entries[i] = fresh
		}
	}
	g.dispose(m, t)
	return api.OK
}

func (g *ground) split(m *pmap, t *plain) api.Errno {
	if t.depth == m.depth() {
		if e := g.widen(m); e != api.OK {
			return e
		}
	}
	low, ok := g.newTable(m.l, len(t.cells), t.depth+1)
	if e := g.ended("low table", ok); e != api.OK {
		return e
	}
	high, ok := g.newTable(m.l, len(t.cells), t.depth+1)
	if e := g.ended("high table", ok); e != api.OK {
		g.drop(low.offs()...)
		return e
	}
	// Behind a shift by the depth the bit that tells them apart is the highest one.
	moved(m, t, func(h uint64) *plain {
		if h<<t.depth >= 1<<63 {
			return high
		}
		return low
	})
	first := slices.Index(m.entries, t)
	n := len(m.entries) >> t.depth
	for i := range n {
		m.entries[first+i] = low
		if i >= n/2 {
			m.entries[first+i] = high
		}
	}
	g.dispose(m, t)
	return api.OK
}

func (g *ground) widen(m *pmap) api.Errno {
	offs, ok := g.take(16 * len(m.entries))
	if e := g.ended("widening", ok); e != api.OK {
		return e
	}
	g.drop(m.dirOff)
	m.dirOff = offs[0]
	var twice []*plain
	for _, p := range m.entries {
		twice = append(twice, p, p)
	}
	m.entries = twice
	return api.OK
}

// dispose: it is free, or the first of the retired ones.
func (g *ground) dispose(m *pmap, p *plain) {
	if p.pins > 0 {
		m.retired = append([]*plain{p}, m.retired...)
		g.steps["retirement"]++
		return
	}
	g.drop(p.offs()...)
}
