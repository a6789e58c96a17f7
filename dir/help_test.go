package dir_test

import (
	"fmt"
	"maps"
	"math"
	"slices"
	"strings"
	"testing"

	"larder/api"
	"larder/arena"
	"larder/dir"
)

// far: numbers that lie a long way from every entry, depth and block, and the ones that a sum or a shift wraps round at.
var far = []int{math.MinInt, math.MinInt + 1, -1 << 61, -1 << 32, -512, -64, 64, 65, 512, 1 << 32, 1 << 60, 1 << 61, 1<<62 + 1, math.MaxInt - 1, math.MaxInt}

// unfit: depths that no directory has.
var unfit = append([]int{-1, 7, 8, 63}, far...)

// tables: offsets of all kinds, sixty-four of them: like and unlike neighbours, below 0, the least and the greatest int, 0.
func tables() []int {
	l := []int{100, 200, 100, 300, -5, -5, math.MinInt, math.MaxInt, math.MaxInt, 0, 0, 1, 16, -1, 1 << 32, 0x0102030405060708}
	for i := len(l); i < 64; i++ {
		l = append(l, 1000*(i/3)-7000)
	}
	return l
}

func answers(t *testing.T, what string, got, want api.Errno) {
	t.Helper()
	if got != want {
		t.Fatalf("%s: error %d, want %d", what, got, want)
	}
}

func open(t *testing.T, limit int) *arena.Arena {
	t.Helper()
	a, e := arena.New(limit)
	answers(t, "arena.New", e, api.OK)
	return a
}

// made: a directory that New doesn't refuse.
func made(t *testing.T, a *arena.Arena, offs ...int) dir.Dir {
	t.Helper()
	d, e := dir.New(a, offs...)
	answers(t, fmt.Sprintf("P10.1: New of %d", len(offs)), e, api.OK)
	return d
}

// picture: all that an arena tells.
type picture struct {
	limit, live, end int
	parts            []api.Part
	bytes            map[int]string // of the live blocks, by their offset
}

func look(t *testing.T, a *arena.Arena) picture {
	t.Helper()
	p := picture{limit: a.Limit(), live: a.Live(), end: a.End(), parts: a.Parts(), bytes: map[int]string{}}
	for off, size := range a.Blocks() {
		s, e := a.Read(off, size)
		answers(t, "Read of a whole block", e, api.OK)
		p.bytes[off] = s
	}
	return p
}

// like: the arena is what the picture says.
func like(t *testing.T, what string, a *arena.Arena, want picture) {
	t.Helper()
	now := look(t, a)
	if now.limit != want.limit || now.live != want.live || now.end != want.end || !slices.Equal(now.parts, want.parts) {
		t.Fatalf("%s: the blocks are %v, live %d, end %d, want %v, %d, %d", what, now.parts, now.live, now.end, want.parts, want.live, want.end)
	}
	for off, got := range now.bytes {
		if got != want.bytes[off] {
			t.Fatalf("%s: the block at %d holds %q, want %q", what, off, got, want.bytes[off])
		}
	}
}

// copied: a picture that may be changed.
func (p picture) copied() picture {
	p.parts, p.bytes = slices.Clone(p.parts), maps.Clone(p.bytes)
	return p
}

// take: a block for these bytes, where chapter 2 lays it: its offset.
func (p *picture) take(s string) int {
	class := arena.Class(len(s))
	s += strings.Repeat("\x00", class-len(s))
	p.live += class
	for i, b := range p.parts {
		if !b.Live && b.Size == class {
			p.parts[i].Live = true
			p.bytes[b.Off] = s
			return b.Off
		}
	}
	off := p.end
	p.parts = append(p.parts, api.Part{Off: off, Size: class, Live: true})
	p.bytes[off] = s
	p.end += class
	return off
}

// drop: the block is free.
func (p *picture) drop(off int) {
	for i, b := range p.parts {
		if b.Off == off {
			p.parts[i].Live = false
			p.live -= b.Size
			delete(p.bytes, off)
		}
	}
}

// lay: these words lie at that offset, across the live blocks that it may reach over.
func (p *picture) lay(at int, words ...int) {
	s := text(words...)
	for off, old := range p.bytes {
		b := []byte(old)
		for i := range len(s) {
			if k := at + i - off; k >= 0 && k < len(b) {
				b[k] = s[i]
			}
		}
		p.bytes[off] = string(b)
	}
}

// text: the words' bytes, the lowest first, by divisions alone.
func text(words ...int) string {
	var b []byte
	for _, w := range words {
		left := uint64(w)
		for range 8 {
			b = append(b, byte(left%256))
			left /= 256
		}
	}
	return string(b)
}

// entries: all entries of a directory, each by Entry.
func entries(t *testing.T, what string, d dir.Dir, want []int) {
	t.Helper()
	for i, w := range want {
		if x, e := d.Entry(i); x != w || e != api.OK {
			t.Fatalf("%s: Entry(%d) = %d, error %d, want %d", what, i, x, e, w)
		}
	}
	for _, i := range []int{-1, len(want)} {
		if x, e := d.Entry(i); x != 0 || e != api.ErrPlace {
			t.Fatalf("%s: Entry(%d) of %d = %d, error %d, want 0, %d", what, i, len(want), x, e, api.ErrPlace)
		}
	}
}

// pair: what Tables gives.
type pair struct{ entry, table int }

// gone: all that a range over Tables gives.
func gone(d dir.Dir) []pair {
	var l []pair
	for i, x := range d.Tables() {
		l = append(l, pair{i, x})
	}
	return l
}

// firsts: what Tables must give of these entries: those that are unlike the one ahead.
func firsts(entries []int) []pair {
	var l []pair
	for i, x := range entries {
		if i == 0 || entries[i-1] != x {
			l = append(l, pair{i, x})
		}
	}
	return l
}

// bench: a directory among marked blocks and free ones of every class that a directory takes, and what it must hold.
type bench struct {
	t    *testing.T
	a    *arena.Arena
	d    dir.Dir
	want picture
	list []int
}

// set: a bench whose directory is new and has these entries. The free blocks are as marked as the others: what is laid there must be laid whole.
func set(t *testing.T, list ...int) *bench {
	t.Helper()
	b := &bench{t: t, a: open(t, 1<<16), list: slices.Clone(list)}
	sizes := []int{16, 512, 16, 32, 128, 64, 32, 256, 16, 512, 64, 128, 48, 256, 16}
	offs, e := b.a.AllocAll(sizes...)
	answers(t, "AllocAll", e, api.OK)
	for off, size := range b.a.Blocks() {
		answers(t, "Write", b.a.Write(off, strings.Repeat("\xA5", size)), api.OK)
	}
	for _, i := range []int{13, 11, 10, 9, 8, 6} {
		answers(t, "Free", b.a.Free(offs[i]), api.OK)
	}
	b.want = look(t, b.a)
	off := b.want.take(text(list...))
	b.d = made(t, b.a, list...)
	if b.d.Off() != off || 1<<b.d.Depth() != len(list) {
		t.Fatalf("P10.1: New of %d: offset %d, depth %d, want the offset %d", len(list), b.d.Off(), b.d.Depth(), off)
	}
	b.holds("P10.1: New")
	return b
}

// benches: a bench for each depth.
func benches(t *testing.T, each func(depth int, b *bench)) {
	t.Helper()
	for depth := range 7 {
		each(depth, set(t, tables()[:1<<depth]...))
	}
}

// holds: all bytes of the arena are as they must be.
func (b *bench) holds(what string) {
	b.t.Helper()
	like(b.t, what, b.a, b.want)
}

// place: Place is done, and so it is to the bench's list and picture.
func (b *bench) place(i, depth, table int) {
	b.t.Helper()
	answers(b.t, fmt.Sprintf("P10.7: Place(%d, %d, %d) of %d", i, depth, table, len(b.list)), b.d.Place(i, depth, table), api.OK)
	for k := range b.list {
		if sameTop(i, k, depth, b.d.Depth()) {
			b.list[k] = table
		}
	}
	b.want.lay(b.d.Off(), b.list...)
}

// widen: Widen is done, and so it is to the bench's list and picture: the old directory.
func (b *bench) widen() dir.Dir {
	b.t.Helper()
	old := b.d
	var list []int
	for _, x := range b.list {
		list = append(list, x, x)
	}
	off := b.want.take(text(list...))
	b.want.drop(old.Off())
	w, e := old.Widen()
	if e != api.OK || w.Off() != off || w.Depth() != old.Depth()+1 {
		b.t.Fatalf("P10.8: Widen of depth %d: offset %d, depth %d, error %d, want the offset %d", old.Depth(), w.Off(), w.Depth(), e, off)
	}
	b.d, b.list = w, list
	return old
}

// sameTop: do two entries of a directory of depth deep share their highest depth bits? Told bit by bit.
func sameTop(i, k, depth, deep int) bool {
	for bit := range depth {
		at := deep - 1 - bit
		if i>>at&1 != k>>at&1 {
			return false
		}
	}
	return true
}

// call: a call with all its results, and what they are worth beside an error.
type call struct {
	name string
	do   func(d dir.Dir) (got, zero any, e api.Errno)
}

// calls: those that look at the entries, with arguments of every kind.
func calls(i, depth int) []call {
	return []call{
		{fmt.Sprintf("Entry(%d)", i), func(d dir.Dir) (any, any, api.Errno) {
			x, e := d.Entry(i)
			return x, 0, e
		}},
		{"Pick", func(d dir.Dir) (any, any, api.Errno) {
			i, x, e := d.Pick(math.MaxUint64)
			return [2]int{i, x}, [2]int{}, e
		}},
		{fmt.Sprintf("Run(%d, %d)", i, depth), func(d dir.Dir) (any, any, api.Errno) {
			first, n, e := d.Run(i, depth)
			return [2]int{first, n}, [2]int{}, e
		}},
		{fmt.Sprintf("Place(%d, %d, 77)", i, depth), func(d dir.Dir) (any, any, api.Errno) {
			return nil, nil, d.Place(i, depth, 77)
		}},
		{"Widen", func(d dir.Dir) (any, any, api.Errno) {
			w, e := d.Widen()
			return w, dir.Dir{}, e
		}},
		{"Free", func(d dir.Dir) (any, any, api.Errno) {
			return nil, nil, d.Free()
		}},
	}
}

// refuses: the call of that name answers this error, beside it nothing, and the arena stays as it is.
func refuses(t *testing.T, what string, a *arena.Arena, d dir.Dir, c call, want api.Errno) {
	t.Helper()
	before := look(t, a)
	got, zero, e := c.do(d)
	if e != want || got != zero {
		t.Fatalf("%s: %s of At(%d, %d): %#v, error %d, want %#v, %d", what, c.name, d.Off(), d.Depth(), got, e, zero, want)
	}
	like(t, what+": "+c.name, a, before)
}

// fill: the arena has no room for another block of 16 bytes.
func fill(t *testing.T, a *arena.Arena) {
	t.Helper()
	for {
		if _, e := a.Alloc(16); e != api.OK {
			return
		}
	}
}
