package audit_test

import (
	"math/bits"
	"slices"

	"larder/api"
	"larder/arena"
	"larder/layout"
	"larder/oracle"
)

// plain: the chapter's words, rule by rule: what holds is asked, and the first that does not hold is kept. All is read byte by byte from a list.
type plain struct {
	o       *oracle.Oracle
	live    map[int]int // the live blocks' bytes
	order   []int       // their offsets, rising
	bytes   map[int]string
	claimed map[int]bool
	first   api.Finding
	pairs   []api.Pair // of the map that was looked at last
}

func newPlain(a *arena.Arena, o *oracle.Oracle) *plain {
	p := &plain{o: o, live: map[int]int{}, bytes: map[int]string{}, claimed: map[int]bool{}}
	for off, size := range a.Blocks() {
		p.live[off] = size
		p.order = append(p.order, off)
		p.bytes[off], _ = a.Read(off, size)
	}
	return p
}

// plainCheck: what the chapter says that Check answers.
func plainCheck(a *arena.Arena, o *oracle.Oracle, roots ...api.Root) api.Finding {
	p := newPlain(a, o)
	for _, r := range roots {
		p.oneMap(r)
	}
	for _, off := range p.order {
		p.ask(p.claimed[off], 26, off)
	}
	return p.first
}

// plainMap: what it says that Map and Pairs answer.
func plainMap(a *arena.Arena, o *oracle.Oracle, r api.Root) (api.Finding, []api.Pair) {
	p := newPlain(a, o)
	if !p.oneMap(r) {
		return p.first, nil
	}
	slices.SortFunc(p.pairs, func(x, y api.Pair) int { return slices.Compare([]byte(x.Key), []byte(y.Key)) })
	return p.first, p.pairs
}

// ask: the rule; does all hold up to here?
func (p *plain) ask(holds bool, code, off int) bool {
	if p.first.Code == 0 && !holds {
		p.first = api.Finding{Code: code, Off: off}
	}
	return p.first.Code == 0
}

// byteAt: a byte of the live block at off.
func (p *plain) byteAt(off, at int) int { return int(p.bytes[off][at]) }

func (p *plain) word(off, at int) int {
	v := 0
	for i := 7; i >= 0; i-- {
		v = v<<8 | p.byteAt(off, at+i)
	}
	return v
}

func within(n, low, high int) bool { return n >= low && n <= high }

func isPower(n, low, high int) bool {
	return within(n, low, high) && bits.OnesCount(uint(n)) == 1
}

// claim: of the block that the word at the place names.
func (p *plain) claim(off, n, place int) bool {
	size, lives := p.live[off]
	if !p.ask(lives && n <= 1048576 && size == arena.Class(n), 6, place) || !p.ask(!p.claimed[off], 7, place) {
		return false
	}
	p.claimed[off] = true
	return true
}

// zero: the bytes at .. to (without it) of the block are 0.
func (p *plain) zero(off, at, to, code int) bool {
	for ; at < to; at++ {
		if !p.ask(p.byteAt(off, at) == 0, code, off+at) {
			return false
		}
	}
	return true
}

// cells: what a collection has met.
type cells struct {
	keys   []string
	births []int
	pairs  []api.Pair
}

// header: what is asked of a header's words.
func (p *plain) header(at int) bool {
	w := func(n int) int { return p.word(at, n) }
	return p.ask(w(0) >= 0, 3, at) &&
		p.ask(w(16) >= w(0) && w(16) <= 1<<62, 3, at+16) &&
		p.ask(within(w(24), 0, 1<<62), 3, at+24) &&
		p.ask(w(56) == 0, 3, at+56) &&
		p.ask(within(w(40), -1, 6), 4, at+40)
}

// oneMap: all of a map: does all hold?
func (p *plain) oneMap(r api.Root) bool {
	if p.first.Code != 0 || !p.ask(layout.Valid(r.Layout), 1, r.Off) || !p.claim(r.Off, 64, r.Off) || !p.header(r.Off) {
		return false
	}
	m := plainMapping{p, r.Off, r.Layout, uint64(p.word(r.Off, 8)), p.word(r.Off, 16)}
	c := &cells{}
	d, root := p.word(r.Off, 40), p.word(r.Off, 32)
	if d == -1 && root != 0 && !(p.claim(root, 32+r.Layout.Group, r.Off+32) && m.heads(root, 1) && m.small(root, c)) {
		return false
	}
	if d >= 0 && !m.dir(root, d, c) {
		return false
	}
	if !p.ask(p.word(r.Off, 0) == len(c.keys), 17, r.Off) {
		return false
	}
	for name, at := r.Off, 48; p.word(name, at) != 0; name, at = p.word(name, at), 16 {
		if !m.retired(p.word(name, at), name+at) {
			return false
		}
	}
	p.pairs = c.pairs
	return true
}

// plainMapping: the map that is looked at.
type plainMapping struct {
	*plain
	off    int
	l      api.Layout
	seed   uint64
	births int
}

// heads: the first three words of a current one.
func (m plainMapping) heads(off, kind int) bool {
	return m.ask(m.word(off, 0) == kind, 8, off) && m.ask(within(m.word(off, 8), 0, 1<<62), 9, off+8) && m.ask(m.word(off, 16) == 0, 10, off+16)
}

// small: behind its first words.
func (m plainMapping) small(off int, c *cells) bool {
	before := len(c.keys)
	return m.group(plainTable{off: off, first: 32, groups: 1}, 0, c) &&
		m.ask(m.word(off, 24) == len(c.keys)-before, 17, off+24) &&
		m.zero(off, 32+m.l.Group, m.live[off], 18)
}

func (m plainMapping) dir(off, d int, c *cells) bool {
	n := 1 << d
	if !m.claim(off, 8*n, m.off+32) || !m.zero(off, 8*n, m.live[off], 18) {
		return false
	}
	for i := 0; i < n; {
		tb := m.word(off, 8*i)
		if !m.claim(tb, 64, off+8*i) || !m.heads(tb, 2) || !m.ask(isPower(m.word(tb, 32), 8, 65536), 19, tb+32) || !m.ask(within(m.word(tb, 48), 0, d), 20, tb+48) {
			return false
		}
		run := 1 << (d - m.word(tb, 48))
		if !m.ask(i%run == 0, 21, off+8*i) {
			return false
		}
		for j := i; j < i+run; j++ {
			m.ask(m.word(off, 8*j) == tb, 21, off+8*j)
		}
		if m.first.Code != 0 || !m.table(tb, i/run, c) {
			return false
		}
		i += run
	}
	return true
}

func (m plainMapping) retired(off, place int) bool {
	if _, lives := m.live[off]; !m.ask(lives, 6, place) || !m.ask(within(m.word(off, 0), 3, 4), 8, off) {
		return false
	}
	isSmall := m.word(off, 0) == 3
	n := 64
	if isSmall {
		n = 32 + m.l.Group
	}
	if !m.claim(off, n, place) || !m.ask(within(m.word(off, 8), 1, 1<<62), 9, off+8) {
		return false
	}
	if isSmall {
		return m.small(off, &cells{})
	}
	return m.ask(isPower(m.word(off, 32), 8, 65536), 19, off+32) &&
		m.ask(within(m.word(off, 48), 0, 6), 20, off+48) && m.table(off, -1, &cells{})
}

// plainTable: where the groups lie, how many there are; of a table its depth and its top bits (-1: they are not known yet).
type plainTable struct {
	off, first, groups int
	isTable            bool
	depth, top         int
}

func (m plainMapping) table(off, top int, c *cells) bool {
	s := m.word(off, 32)
	g := m.word(off, 56)
	if !m.claim(g, s/8*m.l.Group, off+56) {
		return false
	}
	x := plainTable{off: g, groups: s / 8, isTable: true, depth: m.word(off, 48), top: top}
	before, deleted := len(c.keys), 0
	for i := range x.groups {
		if x.top < 0 && len(c.keys) > before {
			x.top = m.top(c.keys[before], x.depth)
		}
		if !m.group(x, i, c) {
			return false
		}
		for j := range 8 {
			if m.byteAt(g, i*m.l.Group+j) == 254 {
				deleted++
			}
		}
	}
	full := len(c.keys) - before
	return m.ask(m.word(off, 24) == full, 17, off+24) && m.ask(m.word(off, 40) == s/8*7-full-deleted, 25, off+40) && m.zero(g, s/8*m.l.Group, m.live[g], 18)
}

// top: the number that the key's hash's highest bits make.
func (m plainMapping) top(key string, depth int) int {
	h := m.o.Hash(m.seed, key)
	n := 0
	for i := range depth {
		n = 2*n + int(h>>(63-i)&1)
	}
	return n
}

// group: the eight slots of group g.
func (m plainMapping) group(x plainTable, g int, c *cells) bool {
	begin := x.first + g*m.l.Group
	marks := map[int]int{}
	for i := range 8 {
		mark := m.byteAt(x.off, begin+i)
		marks[mark]++
		at := begin + 8 + i*m.l.Slot
		switch {
		case mark == 128, mark == 254 && x.isTable:
			m.zero(x.off, at, at+m.l.Slot, 12)
		case mark > 127:
			m.ask(false, 11, x.off+begin+i)
		default:
			m.full(&x, g, begin+i, at, c)
		}
		if m.first.Code != 0 {
			return false
		}
	}
	return !x.isTable || m.ask(marks[128] == 0 || marks[254] == 0, 22, x.off+begin)
}

// full: the full slot whose control byte and whose bytes begin there.
func (m plainMapping) full(x *plainTable, g, ctrl, at int, c *cells) bool {
	key := m.bytes[x.off][at : at+m.l.Key]
	elem := m.bytes[x.off][at+m.l.ElemOff : at+m.l.ElemOff+m.l.Elem]
	birth := m.word(x.off, at+m.l.BirthOff)
	h := m.o.Hash(m.seed, key)
	if !(m.ask(m.byteAt(x.off, ctrl) == int(h%128), 13, x.off+ctrl) &&
		m.zero(x.off, at+m.l.Key, at+m.l.ElemOff, 12) &&
		m.zero(x.off, at+m.l.ElemOff+m.l.Elem, at+m.l.BirthOff, 12) &&
		m.ask(birth >= 0 && birth < m.births, 14, x.off+at+m.l.BirthOff) &&
		m.ask(!slices.Contains(c.keys, key), 15, x.off+at) &&
		m.ask(!slices.Contains(c.births, birth), 16, x.off+at+m.l.BirthOff)) {
		return false
	}
	c.keys, c.births, c.pairs = append(c.keys, key), append(c.births, birth), append(c.pairs, api.Pair{Key: key, Elem: elem})
	if !x.isTable {
		return true
	}
	if x.top < 0 {
		x.top = m.top(key, x.depth)
	}
	return m.ask(m.top(key, x.depth) == x.top, 23, x.off+at) && m.ask(!m.behindEmpty(*x, g, h), 24, x.off+at)
}

// behindEmpty: has a group ahead of group g, on the hash's way, an empty slot?
func (m plainMapping) behindEmpty(x plainTable, g int, h uint64) bool {
	at := int(h / 128 % uint64(x.groups))
	for by := 1; at != g; by++ {
		for i := range 8 {
			if m.byteAt(x.off, x.first+at*m.l.Group+i) == 128 {
				return true
			}
		}
		at = (at + by) % x.groups
	}
	return false
}
