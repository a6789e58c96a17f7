// Package mem: bounds-checked bytes that can grow. (Layer 1; the document's chapter 1.)
package mem

import (
	"bytes"

	"larder/api"
)

// Mem: a memory.
type Mem struct {
	// Its length is the memory's size. The room behind it only makes growing by little steps cheap.
	row []byte
}

// New: a memory of size zero bytes.
func New(size int) (*Mem, api.Errno) {
	if size < 0 || size > api.MaxMem {
		return nil, api.ErrSize
	}
	return &Mem{row: make([]byte, size)}, api.OK
}

// Len: how many bytes it has.
func (m *Mem) Len() int { return len(m.row) }

// Grow: it has size bytes from now on; the new ones are zero.
func (m *Mem) Grow(size int) api.Errno {
	old := len(m.row)
	if size < old || size > api.MaxMem {
		return api.ErrSize
	}
	if size > cap(m.row) {
		m.move(roomFor(size, old))
	}
	m.row = m.row[:size]
	clear(m.row[old:])
	return api.OK
}

// roomFor: the room to take for size bytes. At least twice the old size, so that many small steps copy each byte only a few times.
func roomFor(size, old int) int { return min(max(size, 2*old), api.MaxMem) }

// move: the same bytes, in a row that has more room behind them.
func (m *Mem) move(room int) {
	wider := make([]byte, len(m.row), room)
	copy(wider, m.row)
	m.row = wider
}

// inside: does the span lie inside? (It never forms off+n, which could wrap round.)
func (m *Mem) inside(off, n int) bool {
	size := len(m.row)
	return off >= 0 && n >= 0 && n <= size && off <= size-n
}

// span: the bytes of a span that lies inside.
func (m *Mem) span(off, n int) []byte { return m.row[off : off+n] }

// number: may a number of that width be at off?
func (m *Mem) number(off, width int) api.Errno {
	if width != 1 && width != 2 && width != 4 && width != 8 {
		return api.ErrWidth
	}
	if !m.inside(off, width) {
		return api.ErrBounds
	}
	return api.OK
}

// Load: the number whose width bytes lie at off, the lowest first.
func (m *Mem) Load(off, width int) (uint64, api.Errno) {
	if e := m.number(off, width); e != api.OK {
		return 0, e
	}
	v := uint64(0)
	for i, b := range m.span(off, width) {
		v |= uint64(b) << (8 * i)
	}
	return v, api.OK
}

// Store: lays the low width bytes of v at off, the lowest first.
func (m *Mem) Store(off, width int, v uint64) api.Errno {
	if e := m.number(off, width); e != api.OK {
		return e
	}
	at := m.span(off, width)
	for i := range at {
		at[i] = byte(v >> (8 * i))
	}
	return api.OK
}

// Fill: n bytes from off on are b.
func (m *Mem) Fill(off, n int, b byte) api.Errno {
	if !m.inside(off, n) {
		return api.ErrBounds
	}
	at := m.span(off, n)
	if b == 0 {
		clear(at)
		return api.OK
	}
	for i := range at {
		at[i] = b
	}
	return api.OK
}

// Copy: the n bytes at src lie at dst too, as they were ahead of the call.
func (m *Mem) Copy(dst, src, n int) api.Errno {
	if !m.inside(dst, n) || !m.inside(src, n) {
		return api.ErrBounds
	}
	copy(m.span(dst, n), m.span(src, n))
	return api.OK
}

// Equal: are the n bytes at a those at b?
func (m *Mem) Equal(a, b, n int) (bool, api.Errno) {
	if !m.inside(a, n) || !m.inside(b, n) {
		return false, api.ErrBounds
	}
	return bytes.Equal(m.span(a, n), m.span(b, n)), api.OK
}

// Read: the n bytes at off, in new memory.
func (m *Mem) Read(off, n int) ([]byte, api.Errno) {
	if !m.inside(off, n) {
		return nil, api.ErrBounds
	}
	list := make([]byte, n)
	copy(list, m.span(off, n))
	return list, api.OK
}

// Write: lays the parts at off, one behind the other; all or nothing.
func (m *Mem) Write(off int, parts ...[]byte) api.Errno {
	if !m.fits(off, parts) {
		return api.ErrBounds
	}
	for _, part := range parts {
		off += copy(m.row[off:], part)
	}
	return api.OK
}

// fits: do the parts, one behind the other, lie inside from off on? (It counts the room down and never sums the lengths: one list may be handed in so often that the sum would wrap round.)
func (m *Mem) fits(off int, parts [][]byte) bool {
	if !m.inside(off, 0) {
		return false
	}
	room := len(m.row) - off
	for _, part := range parts {
		if len(part) > room {
			return false
		}
		room -= len(part)
	}
	return true
}
