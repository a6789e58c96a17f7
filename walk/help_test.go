package walk_test

import (
	"fmt"
	"slices"
	"strings"
	"testing"

	"larder/api"
	"larder/arena"
	"larder/layout"
	"larder/oracle"
)

// descriptors: elems of width 0, 1 and more; keys of width 1 and more; with gaps and without; several caps.
var descriptors = [][5]int{
	{1, 1, 1, 1, 16}, // the chapter's
	{1, 0, 1, 1, 32}, // an elem of no bytes
	{2, 6, 2, 2, 16}, // no gap: the birth right behind the elem
	{5, 4, 1, 4, 64}, // a gap behind the key, one behind the elem
	{8, 16, 8, 8, 32},
	{128, 128, 8, 8, 1024}, // the greatest
}

func answers(t *testing.T, what string, got, want api.Errno) {
	t.Helper()
	if got != want {
		t.Fatalf("%s: error %d, want %d", what, got, want)
	}
}

func lay(t *testing.T, d [5]int) api.Layout {
	t.Helper()
	l, e := layout.Parse(d[:]...)
	answers(t, fmt.Sprint("Parse of ", d), e, api.OK)
	return l
}

// fresh: an arena without blocks.
func fresh(t *testing.T, limit int) *arena.Arena {
	t.Helper()
	a, e := arena.New(limit)
	answers(t, "arena.New", e, api.OK)
	return a
}

func ask(t *testing.T, over ...api.Over) *oracle.Oracle {
	t.Helper()
	o, e := oracle.New(over...)
	answers(t, "oracle.New", e, api.OK)
	return o
}

// text: n bytes that tell which of several texts it is.
func text(n, which int) string {
	b := make([]byte, n)
	for i := range b {
		b[i] = byte(41 * i)
		if i < 3 {
			b[i] += byte(which >> (8 * i))
		}
	}
	return string(b)
}

// number: eight bytes, the lowest first, by divisions alone.
func number(v int) string {
	left := uint64(v)
	var b [8]byte
	for i := range b {
		b[i] = byte(left % 256)
		left /= 256
	}
	return string(b[:])
}

// numbers: so many words.
func numbers(list ...int) string {
	var s strings.Builder
	for _, v := range list {
		s.WriteString(number(v))
	}
	return s.String()
}

// marks: bytes of which none is zero, and neighbours are unlike.
func marks(off, size int) string {
	b := make([]byte, size)
	for i := range b {
		b[i] = byte((off/16+i)%251 + 1)
	}
	return string(b)
}

// picture: all that an arena tells.
type picture struct {
	limit, live, end int
	parts            []api.Part
	bytes            map[int]string // of the live blocks, by their offset
}

func look(t *testing.T, a *arena.Arena) picture {
	t.Helper()
	p := picture{limit: a.Limit(), live: a.Live(), end: a.End(), parts: a.Parts(), bytes: map[int]string{}}
	for off, size := range a.Blocks() {
		s, e := a.Read(off, size)
		answers(t, "Read of a whole block", e, api.OK)
		p.bytes[off] = s
	}
	return p
}

// like: the arena is what the picture says.
func like(t *testing.T, what string, a *arena.Arena, want picture) {
	t.Helper()
	now := look(t, a)
	if now.limit != want.limit || now.live != want.live || now.end != want.end || !slices.Equal(now.parts, want.parts) {
		t.Fatalf("%s: P13.8: the blocks are %v, live %d, end %d, want %v, %d, %d", what, now.parts, now.live, now.end, want.parts, want.live, want.end)
	}
	for off, got := range now.bytes {
		alike(t, fmt.Sprintf("%s: P13.8: the block at %d", what, off), got, want.bytes[off])
	}
}

func alike(t *testing.T, what, got, want string) {
	t.Helper()
	if got == want {
		return
	}
	for i := range got {
		if i >= len(want) || got[i] != want[i] {
			t.Fatalf("%s: from byte %d on: %.24q, want %.24q", what, i, got[i:], want[min(i, len(want)):])
		}
	}
	t.Fatalf("%s has %d bytes, want %d", what, len(got), len(want))
}

// heap: which blocks an arena has, as chapter 2 says it.
type heap struct {
	limit, live, end int
	parts            []api.Part
}

// take: blocks for these sizes, all or none: their offsets.
func (h *heap) take(sizes ...int) ([]int, bool) {
	sum := 0
	for _, n := range sizes {
		if n > api.MaxBlock {
			return nil, false
		}
		sum += arena.Class(n)
	}
	if h.live+sum > h.limit {
		return nil, false
	}
	var offs []int
	for _, n := range sizes {
		offs = append(offs, h.one(arena.Class(n)))
	}
	return offs, true
}

func (h *heap) one(class int) int {
	h.live += class
	for i, p := range h.parts {
		if !p.Live && p.Size == class {
			h.parts[i].Live = true
			return p.Off
		}
	}
	h.parts = append(h.parts, api.Part{Off: h.end, Size: class, Live: true})
	h.end += class
	return h.end - class
}

// drop: the blocks are free.
func (h *heap) drop(offs ...int) {
	for _, off := range offs {
		i := slices.IndexFunc(h.parts, func(p api.Part) bool { return p.Off == off && p.Live })
		h.parts[i].Live = false
		h.live -= h.parts[i].Size
	}
}

// size: the bytes of the block at off.
func (h *heap) size(off int) int {
	return h.parts[slices.IndexFunc(h.parts, func(p api.Part) bool { return p.Off == off })].Size
}

// hash: as chapter 8 writes it.
func hash(home uint64, tag int) uint64 { return home*128 + uint64(tag) }

// kind: oracles by how their hashes lie together.
type kind struct {
	name string
	over func(width int) []api.Over
}

var kinds = []kind{
	{"hashes all the same", func(width int) []api.Over {
		return overs(width, func(int) uint64 { return hash(5, 9) })
	}},
	{"hashes of one home and many tags", func(width int) []api.Over {
		return overs(width, func(i int) uint64 { return hash(1<<57-1, i%128) })
	}},
	{"hashes of two homes", func(width int) []api.Over {
		return overs(width, func(i int) uint64 { return hash(uint64(i%2), i%128) })
	}},
	{"few hashes", func(width int) []api.Over {
		return overs(width, func(i int) uint64 {
			return []uint64{hash(0, 0), hash(1<<57-1, 127), hash(3, 5), hash(1<<56+6, 5), hash(1<<55, 0)}[i%5]
		})
	}},
	{"hashes apart in their top bits alone", func(width int) []api.Over {
		return overs(width, func(i int) uint64 { return uint64(i)*37<<58 | 5 })
	}},
	{"many hashes", func(int) []api.Over { return nil }},
}

// overs: overrides for the keys of the numbers 1 to 64.
func overs(width int, of func(i int) uint64) []api.Over {
	var l []api.Over
	for i := 1; i <= 64; i++ {
		l = append(l, api.Over{Key: text(width, i), Hash: of(i)})
	}
	return l
}

// twin: an arena of the same blocks and bytes, so that what is done to one can be held against what is done to the other.
func twin(t *testing.T, a *arena.Arena) *arena.Arena {
	t.Helper()
	var bytes strings.Builder
	for off, size := range a.Blocks() {
		s, _ := a.Read(off, size)
		bytes.WriteString(s)
	}
	b, e := arena.Restore(a.Limit(), a.Parts(), bytes.String())
	answers(t, "arena.Restore", e, api.OK)
	return b
}
