package table_test

import (
	"fmt"
	"math"
	"reflect"
	"strings"
	"testing"

	"larder/api"
	"larder/arena"
	"larder/group"
	"larder/layout"
	"larder/table"
)

// descriptors: elems of width 0, 1 and more; keys of width 1 and more; with gaps behind the key and behind the elem, and without.
var descriptors = [][5]int{
	{1, 1, 1, 1, 16},       // the chapter's
	{1, 0, 1, 1, 16},       // an elem of no bytes, a gap of 7 ahead of the birth
	{2, 6, 2, 2, 32},       // no gap: the birth right behind the elem
	{5, 4, 1, 4, 64},       // a gap behind the key, one behind the elem
	{9, 0, 1, 8, 32},       // a gap behind the key, an elem of no bytes
	{8, 16, 8, 8, 256},     // all at multiples of 8
	{128, 128, 8, 8, 1024}, // the greatest
}

// sizes: tables of one group, of two, of eight.
var sizes = []int{8, 16, 64}

// most: seven eighths of the slots.
var most = map[int]int{8: 7, 16: 14, 32: 28, 64: 56}

func answers(t *testing.T, what string, got, want api.Errno) {
	t.Helper()
	if got != want {
		t.Fatalf("%s: error %d, want %d", what, got, want)
	}
}

func lay(t *testing.T, d [5]int) api.Layout {
	t.Helper()
	l, e := layout.Parse(d[:]...)
	answers(t, fmt.Sprint("Parse of ", d), e, api.OK)
	return l
}

func open(t *testing.T, limit int) *arena.Arena {
	t.Helper()
	a, e := arena.New(limit)
	answers(t, "arena.New", e, api.OK)
	return a
}

// hash: as the chapter writes it.
func hash(home uint64, tag int) uint64 { return home*128 + uint64(tag) }

// text: n bytes that tell which of several texts it is; 0: all of them are zero.
func text(n, which int) string {
	b := make([]byte, n)
	for i := range b {
		if which != 0 {
			b[i] = byte(which + 41*i)
		}
	}
	return string(b)
}

// picture: all that an arena tells.
type picture struct {
	limit, live, end int
	parts            []api.Part
	bytes            map[int]string // of the live blocks, by their offset
}

func look(t *testing.T, a *arena.Arena) picture {
	t.Helper()
	p := picture{limit: a.Limit(), live: a.Live(), end: a.End(), parts: a.Parts(), bytes: map[int]string{}}
	for off, size := range a.Blocks() {
		s, e := a.Read(off, size)
		answers(t, "Read of a whole block", e, api.OK)
		p.bytes[off] = s
	}
	return p
}

// like: the arena is what the picture says.
func like(t *testing.T, what string, a *arena.Arena, want picture) {
	t.Helper()
	now := look(t, a)
	if now.limit != want.limit || now.live != want.live || now.end != want.end || !reflect.DeepEqual(now.parts, want.parts) {
		t.Fatalf("%s: P8.15: the blocks are %v, live %d, end %d, want %v, %d, %d", what, now.parts, now.live, now.end, want.parts, want.live, want.end)
	}
	for off, got := range now.bytes {
		alike(t, fmt.Sprintf("%s: P8.15: the block at %d", what, off), got, want.bytes[off])
	}
}

func alike(t *testing.T, what, got, want string) {
	t.Helper()
	if got == want {
		return
	}
	for i := range got {
		if i >= len(want) || got[i] != want[i] {
			t.Fatalf("%s: from byte %d on: %.24q, want %.24q", what, i, got[i:], want[min(i, len(want)):])
		}
	}
	t.Fatalf("%s has %d bytes, want %d", what, len(got), len(want))
}

// number: eight bytes, the lowest first, by divisions alone.
func number(v int) string {
	left := uint64(v)
	var b [8]byte
	for i := range b {
		b[i] = byte(left % 256)
		left /= 256
	}
	return string(b[:])
}

// plain: a table as a list of cells and a few numbers, and what the chapter's words say of it.
type plain struct {
	cells                         []api.Cell
	hashes                        []uint64 // with which the full slots were put
	left, depth, pins, next, kind int
}

func newPlain(slots, depth int) *plain {
	return &plain{cells: make([]api.Cell, slots), hashes: make([]uint64, slots), left: most[slots], depth: depth, kind: 2}
}

// of: how many cells have that kind.
func (p *plain) of(kind int) int {
	n := 0
	for _, c := range p.cells {
		if c.Kind == kind {
			n++
		}
	}
	return n
}

// holds: has the group a cell of that kind?
func (p *plain) holds(g, kind int) bool {
	for _, c := range p.cells[8*g : 8*g+8] {
		if c.Kind == kind {
			return true
		}
	}
	return false
}

// way: the groups from the home on by 1, 2, 3, .. groups, up to the first with an empty slot.
func (p *plain) way(h uint64) []int {
	groups := len(p.cells) / 8
	g := int(h / 128 % uint64(groups))
	var way []int
	for by := 1; by <= groups; by++ {
		way = append(way, g)
		if p.holds(g, api.CellEmpty) {
			return way
		}
		g = (g + by) % groups
	}
	panic("no group has an empty slot")
}

// find: the key's slot, and how many groups are looked at.
func (p *plain) find(h uint64, key string) (slot, probes int) {
	way := p.way(h)
	for n, g := range way {
		for s := 8 * g; s < 8*g+8; s++ {
			if c := p.cells[s]; c.Kind == api.CellFull && c.Tag == int(h%128) && c.Key == key {
				return s, n + 1
			}
		}
	}
	return -1, len(way)
}

// vacant: the first slot on the way that is empty or deleted.
func (p *plain) vacant(h uint64) int {
	for _, g := range p.way(h) {
		for s := 8 * g; s < 8*g+8; s++ {
			if p.cells[s].Kind != api.CellFull {
				return s
			}
		}
	}
	panic("no vacant slot")
}

func (p *plain) put(h uint64, key, elem string, birth int) int {
	if s, _ := p.find(h, key); s >= 0 {
		p.cells[s].Elem = elem
		return api.PutReplaced
	}
	s := p.vacant(h)
	if p.cells[s].Kind == api.CellEmpty {
		if p.left == 0 {
			return api.PutNoRoom
		}
		p.left--
	}
	p.cells[s] = api.Cell{Kind: api.CellFull, Tag: int(h % 128), Key: key, Elem: elem, Birth: birth}
	p.hashes[s] = h
	return api.PutAdded
}

func (p *plain) delete(h uint64, key string) bool {
	s, _ := p.find(h, key)
	if s < 0 {
		return false
	}
	p.cells[s] = api.Cell{Kind: api.CellDeleted}
	if p.holds(s/8, api.CellEmpty) {
		p.cells[s] = api.Cell{Kind: api.CellEmpty}
		p.left++
	}
	return true
}

// room: the greatest that the room may be.
func (p *plain) room() int {
	return most[len(p.cells)] - p.of(api.CellFull) - p.of(api.CellDeleted)
}

// header: its 64 bytes, where its groups lie there.
func (p *plain) header(groups int) string {
	var s strings.Builder
	for _, v := range []int{p.kind, p.pins, p.next, p.of(api.CellFull), len(p.cells), p.left, p.depth, groups} {
		s.WriteString(number(v))
	}
	return s.String()
}

// groups: their bytes, as the chapters 3 and 6 lay them.
func (p *plain) groups(l api.Layout) string {
	var s strings.Builder
	for g := 0; g < len(p.cells); g += 8 {
		for _, c := range p.cells[g : g+8] {
			s.WriteByte(byte([]int{128, 254, c.Tag}[c.Kind]))
		}
		for _, c := range p.cells[g : g+8] {
			slot := make([]byte, l.Slot)
			if c.Kind == api.CellFull {
				copy(slot, c.Key)
				copy(slot[l.ElemOff:], c.Elem)
				copy(slot[l.BirthOff:], number(c.Birth))
			}
			s.Write(slot)
		}
	}
	return s.String()
}

// bench: a table among blocks whose bytes are all marked, and what it must hold.
type bench struct {
	t      *testing.T
	a      *arena.Arena
	l      api.Layout
	tb     table.Table
	off    int // the header's block
	groups int // the groups' block
	p      *plain
	around picture // the arena, but for the two blocks
}

// set: a bench whose table is new, in blocks that were live and marked once.
func set(t *testing.T, d [5]int, slots, depth int) *bench {
	t.Helper()
	b := &bench{t: t, a: open(t, 1<<19), l: lay(t, d), p: newPlain(slots, depth)}
	n := slots / 8 * b.l.Group
	offs, e := b.a.AllocAll(n, 64, 16, 64, n, 64, n, n, 64, 48)
	answers(t, "AllocAll", e, api.OK)
	for off, size := range b.a.Blocks() {
		answers(t, "Write", b.a.Write(off, marks(off, size)), api.OK)
	}
	answers(t, "Free", b.a.Free(offs[6], offs[4], offs[5], offs[3]), api.OK)
	b.off, b.groups = offs[3], offs[4]
	around := look(t, b.a)
	tb, e := table.New(b.a, b.l, slots, depth)
	answers(t, "P8.1: New", e, api.OK)
	b.tb = tb
	now := look(t, b.a)
	around.live, around.parts = now.live, now.parts
	b.around = around
	b.holds("P8.1: New")
	return b
}

// marks: bytes of which none is zero, and neighbours are unlike.
func marks(off, size int) string {
	b := make([]byte, size)
	for i := range b {
		b[i] = byte((off/16+i)%251 + 1)
	}
	return string(b)
}

// benches: each layout with each size.
func benches(t *testing.T, each func(b *bench)) {
	t.Helper()
	for i, d := range descriptors {
		for _, slots := range sizes {
			each(set(t, d, slots, i))
		}
	}
}

// picture: the arena as it must be.
func (b *bench) picture() picture {
	p := b.around
	p.bytes = map[int]string{}
	for off, s := range b.around.bytes {
		p.bytes[off] = s
	}
	bytes := b.p.groups(b.l)
	p.bytes[b.off] = b.p.header(b.groups)
	p.bytes[b.groups] = bytes + strings.Repeat("\x00", arena.Class(len(bytes))-len(bytes))
	return p
}

// holds: the arena's bytes, in the table and around it, and all that the table tells, are as they must be.
func (b *bench) holds(what string) {
	b.t.Helper()
	p := b.picture()
	like(b.t, what, b.a, p)
	b.tells(what)
	like(b.t, what+", and all was read", b.a, p)
}

// tells: the calls that read answer what the plain table says.
func (b *bench) tells(what string) {
	b.t.Helper()
	b.stat(what)
	for i, want := range b.p.cells {
		if c, e := b.tb.Cell(i); c != want || e != api.OK {
			b.t.Fatalf("%s: P8.10: Cell(%d) = %#v, error %d, want %#v", what, i, c, e, want)
		}
		if want.Kind == api.CellFull {
			b.finds(what, b.p.hashes[i], want.Key)
		}
	}
	same(b.t, what+": P8.11: Cells", gone(b.tb), b.fulls())
}

// stat: the header's numbers.
func (b *bench) stat(what string) {
	b.t.Helper()
	want := api.TableStat{
		Used: b.p.of(api.CellFull), Slots: len(b.p.cells), Left: b.p.left, Depth: b.p.depth,
		Pins: b.p.pins, Next: b.p.next, Retired: b.p.kind == 4, Groups: b.groups,
	}
	if st, e := b.tb.Stat(); st != want || e != api.OK {
		b.t.Fatalf("%s: P8.3: Stat = %+v, error %d, want %+v", what, st, e, want)
	}
}

// finds: Find, Get and Probes answer what the plain table says.
func (b *bench) finds(what string, h uint64, key string) {
	b.t.Helper()
	slot, probes := b.p.find(h, key)
	if n, e := b.tb.Find(h, key); n != slot || e != api.OK {
		b.t.Fatalf("%s: P8.4: Find(%#x, %.24q) = %d, error %d, want %d", what, h, key, n, e, slot)
	}
	var cell api.Cell
	if slot >= 0 {
		cell = b.p.cells[slot]
	}
	if c, e := b.tb.Get(h, key); c != cell || e != api.OK {
		b.t.Fatalf("%s: P8.5: Get(%#x, %.24q) = %#v, error %d, want %#v", what, h, key, c, e, cell)
	}
	if n, e := b.tb.Probes(h, key); n != probes || e != api.OK {
		b.t.Fatalf("%s: P8.6: Probes(%#x, %.24q) = %d, error %d, want %d", what, h, key, n, e, probes)
	}
}

// put: the key of that number is put, in the table and in the plain one: the outcome.
func (b *bench) put(h uint64, key, elem, birth int) int {
	b.t.Helper()
	return b.putText(h, text(b.l.Key, key), text(b.l.Elem, elem), birth)
}

func (b *bench) putText(h uint64, key, elem string, birth int) int {
	b.t.Helper()
	want := b.p.put(h, key, elem, birth)
	if n, e := b.tb.Put(h, key, elem, birth); n != want || e != api.OK {
		b.t.Fatalf("P8.7: Put(%#x, %.24q, %.24q, %d) = %d, error %d, want %d", h, key, elem, birth, n, e, want)
	}
	return want
}

// delete: the key of that number is deleted, in the table and in the plain one: was it there?
func (b *bench) delete(h uint64, key int) bool {
	b.t.Helper()
	return b.deleteText(h, text(b.l.Key, key))
}

func (b *bench) deleteText(h uint64, key string) bool {
	b.t.Helper()
	want := b.p.delete(h, key)
	if was, e := b.tb.Delete(h, key); was != want || e != api.OK {
		b.t.Fatalf("P8.8: Delete(%#x, %.24q) = %v, error %d, want %v", h, key, was, e, want)
	}
	return want
}

// drop: what a full slot holds is deleted.
func (b *bench) drop(slot int) {
	b.t.Helper()
	b.deleteText(b.p.hashes[slot], b.p.cells[slot].Key)
}

// crowd: as many keys as there is room for, all with home 0 and the tags in turn; every third is deleted then, so that the first groups have deleted slots and the last one empty ones.
func (b *bench) crowd() {
	b.t.Helper()
	n := b.p.left
	for i := range n {
		b.put(hash(0, i%3), 1+i, 50+i, 1000+i)
	}
	for i := 0; i < n; i += 3 {
		b.delete(hash(0, i%3), 1+i)
	}
	b.holds("P8.7, P8.8: a table of all kinds of cells")
}

// given: a slot and its cell, as Cells gives them.
type given struct {
	slot int
	cell api.Cell
}

// gone: all that a range over the table's Cells gives.
func gone(tb table.Table) []given {
	var l []given
	for i, c := range tb.Cells() {
		l = append(l, given{i, c})
	}
	return l
}

// fulls: what Cells must give.
func (b *bench) fulls() []given {
	var l []given
	for i, c := range b.p.cells {
		if c.Kind == api.CellFull {
			l = append(l, given{i, c})
		}
	}
	return l
}

func slotsOf(l []given) []int {
	var slots []int
	for _, g := range l {
		slots = append(slots, g.slot)
	}
	return slots
}

func same(t *testing.T, what string, got, want []given) {
	t.Helper()
	if len(got) != len(want) {
		t.Fatalf("%s gives the slots %v, want %v", what, slotsOf(got), slotsOf(want))
	}
	for i := range got {
		if got[i] != want[i] {
			t.Fatalf("%s gives %#v as number %d, want %#v", what, got[i], i, want[i])
		}
	}
}

// widths: texts that have not n bytes: shorter, longer, empty, long.
func widths(n int) []string {
	var l []string
	for _, m := range []int{0, n - 1, n + 1, 2*n + 1, 300} {
		if m >= 0 && m != n {
			l = append(l, strings.Repeat("q", m))
		}
	}
	return l
}

// noBirth: numbers below 0.
var noBirth = []int{math.MinInt, math.MinInt + 9, -1 << 32, -9, -1}

// args: what a call may be given.
type args struct {
	h         uint64
	key, elem string
	birth, n  int
}

// call: a call that a dead table refuses, and its results beside the error, each with what it is worth when there is none.
type call struct {
	name string
	do   func(tb table.Table, x args) (got, zero any, e api.Errno)
}

var calls = []call{
	{"Stat", func(tb table.Table, x args) (any, any, api.Errno) {
		v, e := tb.Stat()
		return v, api.TableStat{}, e
	}},
	{"Find", func(tb table.Table, x args) (any, any, api.Errno) {
		v, e := tb.Find(x.h, x.key)
		return v, 0, e
	}},
	{"Get", func(tb table.Table, x args) (any, any, api.Errno) {
		v, e := tb.Get(x.h, x.key)
		return v, api.Cell{}, e
	}},
	{"Probes", func(tb table.Table, x args) (any, any, api.Errno) {
		v, e := tb.Probes(x.h, x.key)
		return v, 0, e
	}},
	{"Put", func(tb table.Table, x args) (any, any, api.Errno) {
		v, e := tb.Put(x.h, x.key, x.elem, x.birth)
		return v, api.PutNothing, e
	}},
	{"Delete", func(tb table.Table, x args) (any, any, api.Errno) {
		v, e := tb.Delete(x.h, x.key)
		return v, false, e
	}},
	{"Cell", func(tb table.Table, x args) (any, any, api.Errno) {
		v, e := tb.Cell(x.n)
		return v, api.Cell{}, e
	}},
	{"Group", func(tb table.Table, x args) (any, any, api.Errno) {
		v, e := tb.Group(x.n)
		return v, group.Group{}, e
	}},
	{"AddLeft", func(tb table.Table, x args) (any, any, api.Errno) { return nil, nil, tb.AddLeft(x.n) }},
	{"Pin", func(tb table.Table, x args) (any, any, api.Errno) {
		v, e := tb.Pin(x.n)
		return v, 0, e
	}},
	{"Retire", func(tb table.Table, x args) (any, any, api.Errno) { return nil, nil, tb.Retire(x.n) }},
	{"SetNext", func(tb table.Table, x args) (any, any, api.Errno) { return nil, nil, tb.SetNext(x.n) }},
	{"Free", func(tb table.Table, x args) (any, any, api.Errno) { return nil, nil, tb.Free() }},
}

// refuses: the call answers this error, beside it nothing, and the arena stays as it is.
func refuses(t *testing.T, c call, tb table.Table, x args, want api.Errno) {
	t.Helper()
	before := look(t, tb.Arena())
	what := fmt.Sprintf("%s of %#x, %.24q, %.24q, birth %d, number %d", c.name, x.h, x.key, x.elem, x.birth, x.n)
	got, zero, e := c.do(tb, x)
	if e != want || got != zero {
		t.Fatalf("%s: %#v, error %d, want %#v, error %d", what, got, e, zero, want)
	}
	like(t, what, tb.Arena(), before)
}

func named(name string) call {
	for _, c := range calls {
		if c.name == name {
			return c
		}
	}
	panic(name)
}
