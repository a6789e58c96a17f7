package small_test

import (
	"fmt"
	"math"
	"reflect"
	"strings"
	"testing"

	"larder/api"
	"larder/arena"
	"larder/layout"
	"larder/oracle"
	"larder/small"
	"larder/table"
)

// descriptors: elems of width 0, 1 and more; keys of width 1 and more; with gaps behind the key and behind the elem, and without.
var descriptors = [][5]int{
	{1, 1, 1, 1, 16},       // the chapter's
	{1, 0, 1, 1, 16},       // an elem of no bytes, a gap of 7 ahead of the birth
	{2, 6, 2, 2, 32},       // no gap: the birth right behind the elem
	{5, 4, 1, 4, 64},       // a gap behind the key, one behind the elem
	{9, 0, 1, 8, 32},       // a gap behind the key, an elem of no bytes
	{8, 16, 8, 8, 256},     // all at multiples of 8
	{128, 128, 8, 8, 1024}, // the greatest
}

func answers(t *testing.T, what string, got, want api.Errno) {
	t.Helper()
	if got != want {
		t.Fatalf("%s: error %d, want %d", what, got, want)
	}
}

func lay(t *testing.T, d [5]int) api.Layout {
	t.Helper()
	l, e := layout.Parse(d[:]...)
	answers(t, fmt.Sprint("Parse of ", d), e, api.OK)
	return l
}

func open(t *testing.T, limit int) *arena.Arena {
	t.Helper()
	a, e := arena.New(limit)
	answers(t, "arena.New", e, api.OK)
	return a
}

func ask(t *testing.T, over ...api.Over) *oracle.Oracle {
	t.Helper()
	o, e := oracle.New(over...)
	answers(t, "oracle.New", e, api.OK)
	return o
}

// text: n bytes that tell which of several texts it is; 0: all of them are zero.
func text(n, which int) string {
	b := make([]byte, n)
	for i := range b {
		if which != 0 {
			b[i] = byte(which + 41*i)
		}
	}
	return string(b)
}

// picture: all that an arena tells.
type picture struct {
	limit, live, end int
	parts            []api.Part
	bytes            map[int]string // of the live blocks, by their offset
}

func look(t *testing.T, a *arena.Arena) picture {
	t.Helper()
	p := picture{limit: a.Limit(), live: a.Live(), end: a.End(), parts: a.Parts(), bytes: map[int]string{}}
	for off, size := range a.Blocks() {
		s, e := a.Read(off, size)
		answers(t, "Read of a whole block", e, api.OK)
		p.bytes[off] = s
	}
	return p
}

// like: the arena is what the picture says.
func like(t *testing.T, what string, a *arena.Arena, want picture) {
	t.Helper()
	now := look(t, a)
	if now.limit != want.limit || now.live != want.live || now.end != want.end || !reflect.DeepEqual(now.parts, want.parts) {
		t.Fatalf("%s: P11.10: the blocks are %v, live %d, end %d, want %v, %d, %d", what, now.parts, now.live, now.end, want.parts, want.live, want.end)
	}
	for off, got := range now.bytes {
		alike(t, fmt.Sprintf("%s: P11.10: the block at %d", what, off), got, want.bytes[off])
	}
}

func alike(t *testing.T, what, got, want string) {
	t.Helper()
	if got == want {
		return
	}
	for i := range got {
		if i >= len(want) || got[i] != want[i] {
			t.Fatalf("%s: from byte %d on: %.24q, want %.24q", what, i, got[i:], want[min(i, len(want)):])
		}
	}
	t.Fatalf("%s has %d bytes, want %d", what, len(got), len(want))
}

// twin: an arena of the same blocks and bytes, so that what is done to one can be held against what is done to the other.
func twin(t *testing.T, a *arena.Arena) *arena.Arena {
	t.Helper()
	var bytes strings.Builder
	for off, size := range a.Blocks() {
		s, _ := a.Read(off, size)
		bytes.WriteString(s)
	}
	b, e := arena.Restore(a.Limit(), a.Parts(), bytes.String())
	answers(t, "arena.Restore", e, api.OK)
	return b
}

// number: eight bytes, the lowest first, by divisions alone.
func number(v int) string {
	left := uint64(v)
	var b [8]byte
	for i := range b {
		b[i] = byte(left % 256)
		left /= 256
	}
	return string(b[:])
}

// plain: a small block as eight cells and a few numbers, and what the chapter's words say of it.
type plain struct {
	cells            [8]api.Cell
	pins, next, kind int
}

func newPlain() *plain { return &plain{kind: 1} }

// used: how many cells are full.
func (p *plain) used() int {
	n := 0
	for _, c := range p.cells {
		if c.Kind == api.CellFull {
			n++
		}
	}
	return n
}

func (p *plain) find(tag int, key string) int {
	for i, c := range p.cells {
		if c.Kind == api.CellFull && c.Tag == tag && c.Key == key {
			return i
		}
	}
	return -1
}

func (p *plain) put(tag int, key, elem string, birth int) int {
	if i := p.find(tag, key); i >= 0 {
		p.cells[i].Elem = elem
		return api.PutReplaced
	}
	for i, c := range p.cells {
		if c.Kind == api.CellEmpty {
			p.cells[i] = api.Cell{Kind: api.CellFull, Tag: tag, Key: key, Elem: elem, Birth: birth}
			return api.PutAdded
		}
	}
	return api.PutNoRoom
}

func (p *plain) delete(tag int, key string) bool {
	i := p.find(tag, key)
	if i >= 0 {
		p.cells[i] = api.Cell{}
	}
	return i >= 0
}

// block: its bytes, as the chapters 3, 6 and 11 lay them, with what the class has behind them.
func (p *plain) block(l api.Layout) string {
	var s strings.Builder
	for _, v := range []int{p.kind, p.pins, p.next, p.used()} {
		s.WriteString(number(v))
	}
	for _, c := range p.cells {
		s.WriteByte(byte([]int{128, 254, c.Tag}[c.Kind]))
	}
	for _, c := range p.cells {
		slot := make([]byte, l.Slot)
		if c.Kind == api.CellFull {
			copy(slot, c.Key)
			copy(slot[l.ElemOff:], c.Elem)
			copy(slot[l.BirthOff:], number(c.Birth))
		}
		s.Write(slot)
	}
	s.WriteString(strings.Repeat("\x00", arena.Class(s.Len())-s.Len()))
	return s.String()
}

// bench: a small block among blocks whose bytes are all marked, and what it must hold.
type bench struct {
	t      *testing.T
	a      *arena.Arena
	l      api.Layout
	s      small.Small
	off    int
	p      *plain
	around picture // the arena, but for the block
}

// set: a bench whose small block is new, in a block that was live and marked once.
func set(t *testing.T, d [5]int) *bench {
	t.Helper()
	b := &bench{t: t, a: open(t, 1<<16), l: lay(t, d), p: newPlain()}
	n := 32 + b.l.Group
	offs, e := b.a.AllocAll(n, 16, 64, n, 48, n, 64, n)
	answers(t, "AllocAll", e, api.OK)
	for off, size := range b.a.Blocks() {
		answers(t, "Write", b.a.Write(off, marks(off, size)), api.OK)
	}
	answers(t, "Free", b.a.Free(offs[5], offs[3], offs[6]), api.OK)
	b.off = offs[3]
	around := look(t, b.a)
	b.s, e = small.New(b.a, b.l)
	answers(t, "P11.1: New", e, api.OK)
	if b.s.Off() != b.off {
		t.Fatalf("W4: New lies at %d, want %d", b.s.Off(), b.off)
	}
	for i, p := range around.parts {
		if p.Off == b.off {
			around.parts[i].Live = true
			around.live += p.Size
		}
	}
	b.around = around
	b.holds("P11.1: New")
	return b
}

// marks: bytes of which none is zero, and neighbours are unlike.
func marks(off, size int) string {
	b := make([]byte, size)
	for i := range b {
		b[i] = byte((off/16+i)%251 + 1)
	}
	return string(b)
}

// benches: each layout.
func benches(t *testing.T, each func(b *bench)) {
	t.Helper()
	for _, d := range descriptors {
		each(set(t, d))
	}
}

// picture: the arena as it must be.
func (b *bench) picture() picture {
	p := b.around
	p.bytes = map[int]string{}
	for off, s := range b.around.bytes {
		p.bytes[off] = s
	}
	p.bytes[b.off] = b.p.block(b.l)
	return p
}

// holds: the arena's bytes, in the block and around it, and all that is told of it, are as they must be.
func (b *bench) holds(what string) {
	b.t.Helper()
	p := b.picture()
	like(b.t, what, b.a, p)
	b.tells(what)
	like(b.t, what+", and all was read", b.a, p)
}

// tells: the calls that read answer what the plain one says.
func (b *bench) tells(what string) {
	b.t.Helper()
	b.stat(what)
	for i, want := range b.p.cells {
		if c, e := b.s.Cell(i); c != want || e != api.OK {
			b.t.Fatalf("%s: P11.6: Cell(%d) = %#v, error %d, want %#v", what, i, c, e, want)
		}
		if want.Kind == api.CellFull {
			b.finds(what, want.Tag, want.Key)
			b.finds(what, 127-want.Tag, want.Key)
		}
	}
	b.finds(what, 0, text(b.l.Key, 0))
	same(b.t, what+": P11.6: Cells", gone(b.s), b.fulls())
}

// stat: the header's numbers.
func (b *bench) stat(what string) {
	b.t.Helper()
	want := api.SmallStat{Used: b.p.used(), Pins: b.p.pins, Next: b.p.next, Retired: b.p.kind == 3}
	if st, e := b.s.Stat(); st != want || e != api.OK {
		b.t.Fatalf("%s: P11.2: Stat = %+v, error %d, want %+v", what, st, e, want)
	}
}

// finds: Find and Get answer what the plain one says.
func (b *bench) finds(what string, tag int, key string) {
	b.t.Helper()
	slot := b.p.find(tag, key)
	if n, e := b.s.Find(tag, key); n != slot || e != api.OK {
		b.t.Fatalf("%s: P11.3: Find(%d, %.24q) = %d, error %d, want %d", what, tag, key, n, e, slot)
	}
	var cell api.Cell
	if slot >= 0 {
		cell = b.p.cells[slot]
	}
	if c, e := b.s.Get(tag, key); c != cell || e != api.OK {
		b.t.Fatalf("%s: P11.3: Get(%d, %.24q) = %#v, error %d, want %#v", what, tag, key, c, e, cell)
	}
}

// put: the key of that number is put, in the block and in the plain one: the outcome.
func (b *bench) put(tag, key, elem, birth int) int {
	b.t.Helper()
	return b.putText(tag, text(b.l.Key, key), text(b.l.Elem, elem), birth)
}

func (b *bench) putText(tag int, key, elem string, birth int) int {
	b.t.Helper()
	want := b.p.put(tag, key, elem, birth)
	if n, e := b.s.Put(tag, key, elem, birth); n != want || e != api.OK {
		b.t.Fatalf("P11.4: Put(%d, %.24q, %.24q, %d) = %d, error %d, want %d", tag, key, elem, birth, n, e, want)
	}
	return want
}

// delete: the key of that number is deleted, in the block and in the plain one: was it there?
func (b *bench) delete(tag, key int) bool {
	b.t.Helper()
	return b.deleteText(tag, text(b.l.Key, key))
}

func (b *bench) deleteText(tag int, key string) bool {
	b.t.Helper()
	want := b.p.delete(tag, key)
	if was, e := b.s.Delete(tag, key); was != want || e != api.OK {
		b.t.Fatalf("P11.5: Delete(%d, %.24q) = %v, error %d, want %v", tag, key, was, e, want)
	}
	return want
}

// drop: what a full slot holds is deleted.
func (b *bench) drop(slot int) {
	b.t.Helper()
	b.deleteText(b.p.cells[slot].Tag, b.p.cells[slot].Key)
}

// fill: the keys 1 to n, with three tags in turn.
func (b *bench) fill(n int) {
	b.t.Helper()
	for i := range n {
		b.put(i%3, 1+i, 50+i, 1000+i)
	}
}

// given: a slot and its cell, as Cells gives them.
type given struct {
	slot int
	cell api.Cell
}

// gone: all that a range over Cells gives.
func gone(s small.Small) []given {
	var l []given
	for i, c := range s.Cells() {
		l = append(l, given{i, c})
	}
	return l
}

// fulls: what Cells must give.
func (b *bench) fulls() []given {
	var l []given
	for i, c := range b.p.cells {
		if c.Kind == api.CellFull {
			l = append(l, given{i, c})
		}
	}
	return l
}

func same(t *testing.T, what string, got, want []given) {
	t.Helper()
	if len(got) != len(want) {
		t.Fatalf("%s gives %d cells, want %d", what, len(got), len(want))
	}
	for i := range got {
		if got[i] != want[i] {
			t.Fatalf("%s gives %#v as number %d, want %#v", what, got[i], i, want[i])
		}
	}
}

// widths: texts that have not n bytes: shorter, longer, empty, long.
func widths(n int) []string {
	var l []string
	for _, m := range []int{0, n - 1, n + 1, 2*n + 1, 300} {
		if m >= 0 && m != n {
			l = append(l, strings.Repeat("q", m))
		}
	}
	return l
}

// noTags: a step past both bounds, the marks of the control word, and numbers whose low bits are a tag's.
var noTags = []int{math.MinInt, math.MinInt + 5, -1 << 32, -128, -1, 128, 129, 200, 254, 255, 256, 256 + 5, 1 << 32, 1<<32 + 5, math.MaxInt}

// noBirths: numbers below 0.
var noBirths = []int{math.MinInt, math.MinInt + 9, -1 << 32, -9, -1}

// args: what a call may be given.
type args struct {
	tag       int
	key, elem string
	birth, n  int
	o         *oracle.Oracle
}

// call: a call that a dead one refuses, and its results beside the error, each with what it is worth when there is none.
type call struct {
	name string
	do   func(s small.Small, x args) (got, zero any, e api.Errno)
}

var calls = []call{
	{"Stat", func(s small.Small, x args) (any, any, api.Errno) {
		v, e := s.Stat()
		return v, api.SmallStat{}, e
	}},
	{"Find", func(s small.Small, x args) (any, any, api.Errno) {
		v, e := s.Find(x.tag, x.key)
		return v, 0, e
	}},
	{"Get", func(s small.Small, x args) (any, any, api.Errno) {
		v, e := s.Get(x.tag, x.key)
		return v, api.Cell{}, e
	}},
	{"Put", func(s small.Small, x args) (any, any, api.Errno) {
		v, e := s.Put(x.tag, x.key, x.elem, x.birth)
		return v, api.PutNothing, e
	}},
	{"Delete", func(s small.Small, x args) (any, any, api.Errno) {
		v, e := s.Delete(x.tag, x.key)
		return v, false, e
	}},
	{"Cell", func(s small.Small, x args) (any, any, api.Errno) {
		v, e := s.Cell(x.n)
		return v, api.Cell{}, e
	}},
	{"Promote", func(s small.Small, x args) (any, any, api.Errno) {
		v, e := s.Promote(x.o, uint64(x.n))
		return v, table.Table{}, e
	}},
	{"Pin", func(s small.Small, x args) (any, any, api.Errno) {
		v, e := s.Pin(x.n)
		return v, 0, e
	}},
	{"Retire", func(s small.Small, x args) (any, any, api.Errno) { return nil, nil, s.Retire(x.n) }},
	{"SetNext", func(s small.Small, x args) (any, any, api.Errno) { return nil, nil, s.SetNext(x.n) }},
	{"Free", func(s small.Small, x args) (any, any, api.Errno) { return nil, nil, s.Free() }},
}

// refuses: the call answers this error, beside it nothing, and the arena stays as it is.
func refuses(t *testing.T, a *arena.Arena, c call, s small.Small, x args, want api.Errno) {
	t.Helper()
	before := look(t, a)
	what := fmt.Sprintf("%s of tag %d, %.24q, %.24q, birth %d, number %d", c.name, x.tag, x.key, x.elem, x.birth, x.n)
	got, zero, e := c.do(s, x)
	if e != want || got != zero {
		t.Fatalf("%s: %#v, error %d, want %#v, error %d", what, got, e, zero, want)
	}
	like(t, what, a, before)
}

// refuses: of the bench's own.
func (b *bench) refuses(name string, x args, want api.Errno) {
	b.t.Helper()
	refuses(b.t, b.a, named(name), b.s, x, want)
}

func named(name string) call {
	for _, c := range calls {
		if c.name == name {
			return c
		}
	}
	panic(name)
}
