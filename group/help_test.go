package group_test

import (
	"fmt"
	"math"
	"reflect"
	"strings"
	"testing"

	"larder/api"
	"larder/arena"
	"larder/group"
	"larder/layout"
)

// descriptors: layouts with an elem and without one; with gaps behind the key, behind the elem, behind both, and without gaps.
var descriptors = [][5]int{
	{1, 0, 1, 1, 16},       // an elem of no bytes, a gap of 7 ahead of the birth
	{2, 1, 1, 1, 16},       // a gap behind the elem alone
	{5, 3, 1, 1, 64},       // no gap
	{5, 4, 1, 4, 64},       // a gap of 3 behind the key, one of 4 behind the elem
	{9, 0, 1, 8, 32},       // a gap of 7 behind the key, an elem of no bytes
	{7, 8, 1, 8, 256},      // a gap behind the key alone
	{8, 0, 8, 8, 1024},     // neither an elem nor a gap
	{128, 128, 8, 8, 1024}, // the greatest
	{127, 127, 1, 1, 512},  // odd widths
	{4, 6, 4, 2, 128},      // two alignments
	{128, 0, 1, 1, 16},     // the greatest key alone
	{1, 128, 1, 8, 16},     // the greatest elem behind the least key
}

// noSlot, noTag, noBirth: numbers that are none, some of them with one's low bits.
var (
	noSlot  = []int{math.MinInt, math.MinInt + 3, -8, -1, 8, 9, 15, 256 + 3, 1 << 32, 1 << 61, math.MaxInt - 1, math.MaxInt}
	noTag   = []int{math.MinInt, math.MinInt + 5, -128, -1, 128, 129, 254, 255, 256, 256 + 5, 1 << 32, math.MaxInt - 1, math.MaxInt}
	noBirth = []int{math.MinInt, math.MinInt + 9, -1 << 32, -9, -1}
)

// births: ordinary ones, those at which another byte begins to count, the greatest.
var births = []int{0, 1, 9, 127, 128, 255, 256, 65535, 65536, 1<<24 + 7, 1 << 32, 0x0102030405060708, 1 << 56, 1<<62 + 1, math.MaxInt - 1, math.MaxInt}

func answers(t *testing.T, what string, got, want api.Errno) {
	t.Helper()
	if got != want {
		t.Fatalf("%s: error %d, want %d", what, got, want)
	}
}

func lay(t *testing.T, d [5]int) api.Layout {
	t.Helper()
	l, e := layout.Parse(d[:]...)
	answers(t, fmt.Sprint("Parse of ", d), e, api.OK)
	return l
}

// text: n bytes that tell which of several texts it is; 0: all of them are zero.
func text(n, which int) string {
	b := make([]byte, n)
	for i := range b {
		if which != 0 {
			b[i] = byte(which + 41*i)
		}
	}
	return string(b)
}

// full: a full cell of that layout, its key and elem told apart by numbers.
func full(l api.Layout, tag, key, elem, birth int) api.Cell {
	return api.Cell{Kind: api.CellFull, Tag: tag, Key: text(l.Key, key), Elem: text(l.Elem, elem), Birth: birth}
}

// painted: the bytes of a group with these cells, as the chapter's words say.
func painted(l api.Layout, cells [8]api.Cell) string {
	b := make([]byte, l.Group)
	for i, c := range cells {
		switch c.Kind {
		case api.CellEmpty:
			b[i] = 128
		case api.CellDeleted:
			b[i] = 254
		default:
			b[i] = byte(c.Tag)
			slot := b[8+i*l.Slot:][:l.Slot]
			copy(slot, c.Key)
			copy(slot[l.ElemOff:], c.Elem)
			left := c.Birth
			for j := range 8 {
				slot[l.BirthOff+j] = byte(left % 256)
				left /= 256
			}
		}
	}
	return string(b)
}

// wordOf: the control word of these cells, by sums alone.
func wordOf(cells [8]api.Cell) uint64 {
	var w, power uint64 = 0, 1
	for _, c := range cells {
		w += uint64([]int{128, 254, c.Tag}[c.Kind]) * power
		power *= 256
	}
	return w
}

// lowest: the slot that Find must answer.
func lowest(cells [8]api.Cell, tag int, key string) int {
	for i, c := range cells {
		if c.Kind == api.CellFull && c.Tag == tag && c.Key == key {
			return i
		}
	}
	return 8
}

// picture: all that an arena tells.
type picture struct {
	limit, live, end int
	parts            []api.Part
	bytes            map[int]string // of the live blocks, by their offset
}

func look(t *testing.T, a *arena.Arena) picture {
	t.Helper()
	p := picture{limit: a.Limit(), live: a.Live(), end: a.End(), parts: a.Parts(), bytes: map[int]string{}}
	for off, size := range a.Blocks() {
		s, e := a.Read(off, size)
		answers(t, "Read of a whole block", e, api.OK)
		p.bytes[off] = s
	}
	return p
}

// like: the arena is what the picture says.
func like(t *testing.T, what string, a *arena.Arena, want picture) {
	t.Helper()
	now := look(t, a)
	if now.limit != want.limit || now.live != want.live || now.end != want.end || !reflect.DeepEqual(now.parts, want.parts) {
		t.Fatalf("%s: the blocks are %v, live %d, end %d, want %v, %d, %d", what, now.parts, now.live, now.end, want.parts, want.live, want.end)
	}
	for off, got := range now.bytes {
		for i := range got {
			if got[i] != want.bytes[off][i] {
				t.Fatalf("%s: byte %d of the block at %d: %.24q, want %.24q", what, i, off, got[i:], want.bytes[off][i:])
			}
		}
	}
}

// bench: a group among blocks whose bytes are all marked, and what its slots must hold.
type bench struct {
	t      *testing.T
	a      *arena.Arena
	l      api.Layout
	block  int // where the group's block begins
	size   int // its bytes
	freed  int // where a block of as many bytes was
	at     int // where the group begins in its block
	g      group.Group
	cells  [8]api.Cell
	around picture // the arena, but for the group's own bytes
}

// set: a bench whose group is empty and begins at that byte of its block; -1: it ends where its block does.
func set(t *testing.T, d [5]int, at int) *bench {
	t.Helper()
	a, e := arena.New(1 << 16)
	answers(t, "New", e, api.OK)
	b := &bench{t: t, a: a, l: lay(t, d)}
	n := b.l.Group + 2*max(at, 0)
	offs, e := a.AllocAll(n, n, n, n, 16)
	answers(t, "AllocAll", e, api.OK)
	b.block, b.freed = offs[1], offs[3]
	answers(t, "Free", a.Free(b.freed), api.OK)
	b.size, _ = a.Size(b.block)
	if at < 0 {
		at = b.size - b.l.Group
	}
	b.at = at
	for off, size := range a.Blocks() {
		answers(t, "Write", a.Write(off, marks(off, size)), api.OK)
	}
	b.around = look(t, a)
	b.g = group.At(a, b.l, b.block+at)
	answers(t, "P6.3: Reset", b.g.Reset(), api.OK)
	b.holds("P6.3: Reset over bytes that were anything")
	return b
}

// marks: bytes of which none is zero, and neighbours are unlike.
func marks(off, size int) string {
	b := make([]byte, size)
	for i := range b {
		b[i] = byte((off/16+i)%251 + 1)
	}
	return string(b)
}

// benches: each descriptor, at the start of a block, in its midst (no multiple of anything) and at its end.
func benches(t *testing.T, each func(b *bench)) {
	t.Helper()
	for _, d := range descriptors {
		for _, at := range []int{0, 21, -1} {
			each(set(t, d, at))
		}
	}
}

// picture: the arena as it must be.
func (b *bench) picture() picture {
	p := b.around
	p.bytes = map[int]string{}
	for off, s := range b.around.bytes {
		p.bytes[off] = s
	}
	s := p.bytes[b.block]
	p.bytes[b.block] = s[:b.at] + painted(b.l, b.cells) + s[b.at+b.l.Group:]
	return p
}

// holds: the arena's bytes, in the group and around it, and all that the group tells, are as they must be.
func (b *bench) holds(what string) {
	b.t.Helper()
	like(b.t, what, b.a, b.picture())
	b.tells(what)
	like(b.t, what+", and all was read", b.a, b.picture())
}

// tells: the calls that read answer what the cells say.
func (b *bench) tells(what string) {
	b.t.Helper()
	if w, e := b.g.Word(); w != wordOf(b.cells) || e != api.OK {
		b.t.Fatalf("%s: P6.4: Word = %#016x, error %d, want %#016x", what, w, e, wordOf(b.cells))
	}
	for i, want := range b.cells {
		if c, e := b.g.Cell(i); c != want || e != api.OK {
			b.t.Fatalf("%s: P6.4: Cell(%d) = %#v, error %d, want %#v", what, i, c, e, want)
		}
		if want.Kind == api.CellFull {
			b.finds(what, want.Tag, want.Key)
		}
	}
	same(b.t, what+": P6.10: Cells", gone(b.g), b.fulls(0))
}

// finds: Find answers what the cells say.
func (b *bench) finds(what string, tag int, key string) {
	b.t.Helper()
	want := lowest(b.cells, tag, key)
	if i, e := b.g.Find(tag, key); i != want || e != api.OK {
		b.t.Fatalf("%s: P6.5: Find(%d, %.24q) = %d, error %d, want %d", what, tag, key, i, e, want)
	}
}

// put: slot i holds this cell, by Fill or Erase.
func (b *bench) put(i int, c api.Cell) {
	b.t.Helper()
	if c.Kind == api.CellFull {
		answers(b.t, "P6.6: Fill", b.g.Fill(i, c.Tag, c.Key, c.Elem, c.Birth), api.OK)
	} else {
		answers(b.t, "P6.8: Erase", b.g.Erase(i, c.Kind == api.CellDeleted), api.OK)
	}
	b.cells[i] = c
}

// mix: a full, an empty and a deleted slot in turn, full ones at both ends, and two slots with the same tag and key.
func (b *bench) mix() {
	b.t.Helper()
	for i, kind := range []int{2, 0, 1, 2, 2, 1, 0, 2} {
		c := api.Cell{Kind: kind}
		if kind == api.CellFull {
			c = full(b.l, 40+i/4, 7+i/4, 90+i, 1000+i)
		}
		b.put(i, c)
	}
	b.holds("P6.6, P6.8: a group of all kinds of cells")
}

// given: a slot and its cell, as Cells gives them.
type given struct {
	slot int
	cell api.Cell
}

// gone: all that a range over the group's Cells gives.
func gone(g group.Group) []given {
	var l []given
	for i, c := range g.Cells() {
		l = append(l, given{i, c})
	}
	return l
}

// fulls: what Cells must give from that slot on.
func (b *bench) fulls(from int) []given {
	var l []given
	for i, c := range b.cells {
		if i >= from && c.Kind == api.CellFull {
			l = append(l, given{i, c})
		}
	}
	return l
}

func slotsOf(l []given) []int {
	var slots []int
	for _, g := range l {
		slots = append(slots, g.slot)
	}
	return slots
}

func same(t *testing.T, what string, got, want []given) {
	t.Helper()
	if len(got) != len(want) {
		t.Fatalf("%s gives the slots %v, want %v", what, slotsOf(got), slotsOf(want))
	}
	for i := range got {
		if got[i] != want[i] {
			t.Fatalf("%s gives %#v as number %d, want %#v", what, got[i], i, want[i])
		}
	}
}

// widths: texts that have not n bytes: shorter, longer, empty, long.
func widths(n int) []string {
	var l []string
	for _, m := range []int{0, n - 1, n + 1, 2*n + 1, 300} {
		if m >= 0 && m != n {
			l = append(l, strings.Repeat("q", m))
		}
	}
	return l
}
