package walk_test

import (
	"slices"

	"larder/api"
	"larder/oracle"
)

// most: seven eighths of the slots.
var most = map[int]int{
	8: 7, 16: 14, 32: 28, 64: 56, 128: 112, 256: 224, 512: 448, 1024: 896, 2048: 1792,
	4096: 3584, 8192: 7168, 16384: 14336, 32768: 28672, 65536: 57344,
}

// plain: a table or a small block as a list of cells and a few numbers, and what the chapters' words say of it. (A small block is its own group.)
type plain struct {
	off, groups       int // where its blocks lie
	small             bool
	cells             []api.Cell
	left, depth, pins int
}

// fulls: the full cells, in rising order of their slots.
func (p *plain) fulls() []api.Cell {
	return slices.DeleteFunc(slices.Clone(p.cells), func(c api.Cell) bool { return c.Kind != api.CellFull })
}

// used: how many cells are full.
func (p *plain) used() int {
	n := 0
	for _, c := range p.cells {
		if c.Kind == api.CellFull {
			n++
		}
	}
	return n
}

// holds: has the group a cell of that kind?
func (p *plain) holds(g, kind int) bool {
	return slices.ContainsFunc(p.cells[8*g:8*g+8], func(c api.Cell) bool { return c.Kind == kind })
}

// order: all groups, from the home on by 1, 2, 3, .. groups.
func (p *plain) order(h uint64) []int {
	groups := len(p.cells) / 8
	g := int(h / 128 % uint64(groups))
	var order []int
	for by := 1; by <= groups; by++ {
		order = append(order, g)
		g = (g + by) % groups
	}
	return order
}

// way: the groups up to the first with an empty slot; of a small block its one group.
func (p *plain) way(h uint64) []int {
	order := p.order(h)
	for n, g := range order {
		if p.holds(g, api.CellEmpty) {
			return order[:n+1]
		}
	}
	return order
}

// find: the key's slot, and how many groups are looked at for it; -1: there is none.
func (p *plain) find(h uint64, key string) (slot, groups int) {
	way := p.way(h)
	for n, g := range way {
		for s := 8 * g; s < 8*g+8; s++ {
			if c := p.cells[s]; c.Kind == api.CellFull && c.Tag == int(h%128) && c.Key == key {
				return s, n + 1
			}
		}
	}
	return -1, len(way)
}

// add: the key takes the first slot on its way that is empty or deleted: is there room for it?
func (p *plain) add(h uint64, key, elem string, birth int) bool {
	for _, g := range p.way(h) {
		for s := 8 * g; s < 8*g+8; s++ {
			kind := p.cells[s].Kind
			if kind == api.CellFull {
				continue
			}
			if kind == api.CellEmpty && !p.small {
				if p.left == 0 {
					return false
				}
				p.left--
			}
			p.cells[s] = api.Cell{Kind: api.CellFull, Tag: int(h % 128), Key: key, Elem: elem, Birth: birth}
			return true
		}
	}
	return false
}

// remove: the slot is deleted; empty, where its group has an empty one, and in a small block.
func (p *plain) remove(s int) {
	p.cells[s] = api.Cell{Kind: api.CellDeleted}
	switch {
	case p.small:
		p.cells[s].Kind = api.CellEmpty
	case p.holds(s/8, api.CellEmpty):
		p.cells[s].Kind = api.CellEmpty
		p.left++
	}
}

// hasher: a key's hash, as its map has it.
type hasher func(key string) uint64

// needed: does a full cell of another group pass this one?
func (p *plain) needed(g int, of hasher) bool {
	for s, c := range p.cells {
		if c.Kind != api.CellFull || s/8 == g {
			continue
		}
		order := p.order(of(c.Key))
		if slices.Index(order, g) < slices.Index(order, s/8) {
			return true
		}
	}
	return false
}

// prune: the marks of each group that doesn't need them go.
func (p *plain) prune(of hasher) {
	for g := range len(p.cells) / 8 {
		if !p.holds(g, api.CellDeleted) || p.needed(g, of) {
			continue
		}
		for s := 8 * g; s < 8*g+8; s++ {
			if p.cells[s].Kind == api.CellDeleted {
				p.cells[s].Kind = api.CellEmpty
				p.left++
			}
		}
	}
}

// kindWord: the first word of its header.
func (p *plain) kindWord(retired bool) int {
	kind := 2
	if p.small {
		kind = 1
	}
	if retired {
		kind += 2
	}
	return kind
}

// groupBytes: its groups, as the chapters 3 and 6 lay them.
func (p *plain) groupBytes(l api.Layout) string {
	b := make([]byte, len(p.cells)/8*l.Group)
	for i, c := range p.cells {
		group := b[i/8*l.Group:]
		group[i%8] = byte([]int{128, 254, c.Tag}[c.Kind])
		if c.Kind == api.CellFull {
			slot := group[8+i%8*l.Slot:]
			copy(slot, c.Key)
			copy(slot[l.ElemOff:], c.Elem)
			copy(slot[l.BirthOff:], number(c.Birth))
		}
	}
	return string(b)
}

// bytes: what its blocks hold, by their offsets.
func (p *plain) bytes(l api.Layout, retired bool, next int) map[int]string {
	kind, used, groups := p.kindWord(retired), p.used(), p.groupBytes(l)
	if p.small {
		return map[int]string{p.off: numbers(kind, p.pins, next, used) + groups}
	}
	return map[int]string{
		p.off:    numbers(kind, p.pins, next, used, len(p.cells), p.left, p.depth, p.groups),
		p.groups: groups,
	}
}

// offs: where its blocks lie.
func (p *plain) offs() []int {
	if p.small {
		return []int{p.off}
	}
	return []int{p.off, p.groups}
}

// pmap: a map as the chapter's words say it, and its pairs beside that.
type pmap struct {
	off           int
	l             api.Layout
	o             *oracle.Oracle
	seed          uint64
	births, epoch int
	block         *plain   // of a small one
	entries       []*plain // of a wide one
	dirOff        int
	retired       []*plain // the latest first
	pairs         map[string]string
}

func (m *pmap) of(key string) uint64 { return m.o.Hash(m.seed, key) }

// depth: the directory's; -1: there is none.
func (m *pmap) depth() int {
	for d := range 7 {
		if len(m.entries) == 1<<d {
			return d
		}
	}
	return -1
}

// entry: the number of a hash's entry: each has an equal share of all hashes.
func (m *pmap) entry(h uint64) int { return int(h / 2 / (1 << 63 / uint64(len(m.entries)))) }

// current: its tables in the order of their entries, each once, or its small block.
func (m *pmap) current() []*plain {
	if m.block != nil {
		return []*plain{m.block}
	}
	return slices.Compact(slices.Clone(m.entries))
}

// at: the table or small block that a key is looked for in; nil: there is none.
func (m *pmap) at(key string) *plain {
	if m.entries != nil {
		return m.entries[m.entry(m.of(key))]
	}
	return m.block
}

// cells: the full cells in the map's own order.
func (m *pmap) cells() []api.Cell {
	var l []api.Cell
	for _, p := range m.current() {
		l = append(l, p.fulls()...)
	}
	return l
}

// cell: the key's; nil: it isn't there.
func (m *pmap) cell(key string) *api.Cell {
	for _, p := range m.current() {
		for i, c := range p.cells {
			if c.Kind == api.CellFull && c.Key == key {
				return &p.cells[i]
			}
		}
	}
	return nil
}

// root: the header's word.
func (m *pmap) root() int {
	switch {
	case m.block != nil:
		return m.block.off
	case m.entries != nil:
		return m.dirOff
	}
	return 0
}

// stat: what Stat must answer.
func (m *pmap) stat() api.MapStat {
	used := 0
	for _, p := range m.current() {
		used += p.used()
	}
	st := api.MapStat{Used: used, Seed: m.seed, Births: m.births, Epoch: m.epoch, Root: m.root(), Depth: m.depth()}
	if len(m.retired) > 0 {
		st.Retired = m.retired[0].off
	}
	return st
}

// bytes: what its blocks hold, by their offsets.
func (m *pmap) bytes() map[int]string {
	st := m.stat()
	all := map[int]string{m.off: numbers(st.Used, int(st.Seed), st.Births, st.Epoch, st.Root, st.Depth, st.Retired, 0)}
	add := func(more map[int]string) {
		for off, s := range more {
			all[off] = s
		}
	}
	if m.entries != nil {
		var offs []int
		for _, p := range m.entries {
			offs = append(offs, p.off)
		}
		add(map[int]string{m.dirOff: numbers(offs...)})
	}
	for _, p := range m.current() {
		add(p.bytes(m.l, false, 0))
	}
	for i, p := range m.retired {
		next := 0
		if i+1 < len(m.retired) {
			next = m.retired[i+1].off
		}
		add(p.bytes(m.l, true, next))
	}
	return all
}

// below: where all its blocks but the header lie.
func (m *pmap) below() []int {
	var offs []int
	for _, p := range slices.Concat(m.current(), m.retired) {
		offs = append(offs, p.offs()...)
	}
	if m.entries != nil {
		offs = append(offs, m.dirOff)
	}
	return offs
}
