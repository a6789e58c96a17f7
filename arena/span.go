package arena

import (
	"slices"
	"strings"

	"larder/api"
)

// good: is the span inside some live block?
func (a *Arena) good(off, n int) bool {
	i, begins := slices.BinarySearch(a.begins, off)
	// A span of no bytes at off may lie at the end of the block ahead, too.
	return begins && a.inside(i, off, n) || a.inside(i-1, off, n)
}

// inside: is the span inside the block of number i, and that live? The block begins at off or below. (It never forms off+n, which could wrap round.)
func (a *Arena) inside(i, off, n int) bool {
	if i < 0 || n < 0 {
		return false
	}
	begin := a.begins[i]
	size, live := a.live[begin]
	return live && off-begin <= size-n
}

// number: may a number of that width be at off?
func (a *Arena) number(off, width int) api.Errno {
	if width != 1 && width != 2 && width != 4 && width != 8 {
		return api.ErrWidth
	}
	if !a.good(off, width) {
		return api.ErrDead
	}
	return api.OK
}

// Load: the number whose width bytes lie at off, the lowest first.
func (a *Arena) Load(off, width int) (uint64, api.Errno) {
	if e := a.number(off, width); e != api.OK {
		return 0, e
	}
	return a.memory.Load(off, width)
}

// Store: lays the low width bytes of v at off, the lowest first.
func (a *Arena) Store(off, width int, v uint64) api.Errno {
	if e := a.number(off, width); e != api.OK {
		return e
	}
	return a.memory.Store(off, width, v)
}

// Fill: n bytes from off on are b.
func (a *Arena) Fill(off, n int, b byte) api.Errno {
	if !a.good(off, n) {
		return api.ErrDead
	}
	return a.memory.Fill(off, n, b)
}

// Copy: the n bytes at src lie at dst too, as they were ahead of the call.
func (a *Arena) Copy(dst, src, n int) api.Errno {
	if !a.good(dst, n) || !a.good(src, n) {
		return api.ErrDead
	}
	return a.memory.Copy(dst, src, n)
}

// Equal: are the n bytes at x those at y?
func (a *Arena) Equal(x, y, n int) (bool, api.Errno) {
	if !a.good(x, n) || !a.good(y, n) {
		return false, api.ErrDead
	}
	return a.memory.Equal(x, y, n)
}

// Read: the n bytes at off.
func (a *Arena) Read(off, n int) (string, api.Errno) {
	if !a.good(off, n) {
		return "", api.ErrDead
	}
	list, e := a.memory.Read(off, n)
	return string(list), e
}

// Write: lays the parts at off, one behind the other; all or nothing.
func (a *Arena) Write(off int, parts ...string) api.Errno {
	if !a.good(off, length(parts)) {
		return api.ErrDead
	}
	return a.memory.Write(off, []byte(strings.Join(parts, "")))
}

// length: the sum of the parts' lengths; where that is more than any block has, some number above MaxBlock. (One long part may be handed in so often that the sum would wrap round.)
func length(parts []string) int {
	n := 0
	for _, part := range parts {
		n += len(part)
		if n > api.MaxBlock {
			break
		}
	}
	return n
}
