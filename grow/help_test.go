package grow_test

import (
	"fmt"
	"maps"
	"math/rand"
	"slices"
	"strings"
	"testing"

	"larder/api"
	"larder/arena"
	"larder/grow"
	"larder/layout"
	"larder/oracle"
	"larder/table"
)

// descriptors: elems of width 0, 1 and more; keys of width 1 and more; with gaps and without.
var descriptors = [][5]int{
	{1, 0, 1, 1, 16}, // the chapter's
	{2, 6, 2, 2, 32},
	{5, 4, 1, 4, 64},
	{8, 16, 8, 8, 256},
	{128, 128, 8, 8, 1024}, // the greatest
}

// sizes: tables of one group, of two, of eight.
var sizes = []int{8, 16, 64}

// most: seven eighths of the slots.
var most = map[int]int{
	8: 7, 16: 14, 32: 28, 64: 56, 128: 112, 256: 224, 512: 448, 1024: 896, 2048: 1792,
	4096: 3584, 8192: 7168, 16384: 14336, 32768: 28672, 65536: 57344,
}

func answers(t *testing.T, what string, got, want api.Errno) {
	t.Helper()
	if got != want {
		t.Fatalf("%s: error %d, want %d", what, got, want)
	}
}

func lay(t *testing.T, d [5]int) api.Layout {
	t.Helper()
	l, e := layout.Parse(d[:]...)
	answers(t, fmt.Sprint("Parse of ", d), e, api.OK)
	return l
}

func open(t *testing.T, limit int) *arena.Arena {
	t.Helper()
	a, e := arena.New(limit)
	answers(t, "arena.New", e, api.OK)
	return a
}

func ask(t *testing.T, over ...api.Over) *oracle.Oracle {
	t.Helper()
	o, e := oracle.New(over...)
	answers(t, "oracle.New", e, api.OK)
	return o
}

// hash: as chapter 8 writes it.
func hash(home uint64, tag int) uint64 { return home*128 + uint64(tag) }

// text: n bytes that tell which of several texts it is.
func text(n, which int) string {
	b := make([]byte, n)
	for i := range b {
		b[i] = byte(which + 41*i)
	}
	return string(b)
}

// picture: all that an arena tells.
type picture struct {
	limit, live, end int
	parts            []api.Part
	bytes            map[int]string // of the live blocks, by their offset
}

func look(t *testing.T, a *arena.Arena) picture {
	t.Helper()
	p := picture{limit: a.Limit(), live: a.Live(), end: a.End(), parts: a.Parts(), bytes: map[int]string{}}
	for off, size := range a.Blocks() {
		s, e := a.Read(off, size)
		answers(t, "Read of a whole block", e, api.OK)
		p.bytes[off] = s
	}
	return p
}

// like: the arena is what the picture says.
func like(t *testing.T, what string, a *arena.Arena, want picture) {
	t.Helper()
	now := look(t, a)
	if now.limit != want.limit || now.live != want.live || now.end != want.end || !slices.Equal(now.parts, want.parts) {
		t.Fatalf("%s: the blocks are %v, live %d, end %d, want %v, %d, %d", what, now.parts, now.live, now.end, want.parts, want.live, want.end)
	}
	for off, got := range now.bytes {
		alike(t, fmt.Sprintf("%s: the block at %d", what, off), got, want.bytes[off])
	}
}

func alike(t *testing.T, what, got, want string) {
	t.Helper()
	if got == want {
		return
	}
	for i := range got {
		if i >= len(want) || got[i] != want[i] {
			t.Fatalf("%s: from byte %d on: %.24q, want %.24q", what, i, got[i:], want[min(i, len(want)):])
		}
	}
	t.Fatalf("%s has %d bytes, want %d", what, len(got), len(want))
}

// copied: a picture that may be changed.
func (p picture) copied() picture {
	p.parts, p.bytes = slices.Clone(p.parts), maps.Clone(p.bytes)
	return p
}

// take: a block for these bytes, where chapter 2 lays it: its offset.
func (p *picture) take(s string) int {
	class := arena.Class(len(s))
	s += strings.Repeat("\x00", class-len(s))
	p.live += class
	for i, b := range p.parts {
		if !b.Live && b.Size == class {
			p.parts[i].Live = true
			p.bytes[b.Off] = s
			return b.Off
		}
	}
	off := p.end
	p.parts = append(p.parts, api.Part{Off: off, Size: class, Live: true})
	p.bytes[off] = s
	p.end += class
	return off
}

// add: a table's two blocks: the header's offset.
func (p *picture) add(l api.Layout, tb *plain) int {
	off := p.take(strings.Repeat("\x00", 64))
	p.bytes[off] = tb.header(p.take(tb.groups(l)))
	return off
}

// drop: the block is free.
func (p *picture) drop(off int) {
	for i, b := range p.parts {
		if b.Off == off {
			p.parts[i].Live = false
			p.live -= b.Size
			delete(p.bytes, off)
		}
	}
}

// number: eight bytes, the lowest first, by divisions alone.
func number(v int) string {
	left := uint64(v)
	var b [8]byte
	for i := range b {
		b[i] = byte(left % 256)
		left /= 256
	}
	return string(b[:])
}

// hasher: a key's hash, as a call is told it.
type hasher func(key string) uint64

func with(o *oracle.Oracle, seed uint64) hasher {
	return func(key string) uint64 { return o.Hash(seed, key) }
}

// plain: a table as a list of cells and a few numbers, and what the chapters' words say of it.
type plain struct {
	cells                         []api.Cell
	left, depth, pins, next, kind int
}

func newPlain(slots, depth int) *plain {
	return &plain{cells: make([]api.Cell, slots), left: most[slots], depth: depth, kind: 2}
}

// of: how many cells have that kind.
func (p *plain) of(kind int) int {
	n := 0
	for _, c := range p.cells {
		if c.Kind == kind {
			n++
		}
	}
	return n
}

// fulls: the full cells, in rising order of their slots.
func (p *plain) fulls() []api.Cell {
	var l []api.Cell
	for _, c := range p.cells {
		if c.Kind == api.CellFull {
			l = append(l, c)
		}
	}
	return l
}

// holds: has the group a cell of that kind?
func (p *plain) holds(g, kind int) bool {
	return slices.ContainsFunc(p.cells[8*g:8*g+8], func(c api.Cell) bool { return c.Kind == kind })
}

// order: all groups, from the home on by 1, 2, 3, .. groups.
func (p *plain) order(h uint64) []int {
	groups := len(p.cells) / 8
	g := int(h / 128 % uint64(groups))
	var order []int
	for by := 1; by <= groups; by++ {
		order = append(order, g)
		g = (g + by) % groups
	}
	return order
}

// way: the groups up to the first with an empty slot.
func (p *plain) way(h uint64) []int {
	order := p.order(h)
	for n, g := range order {
		if p.holds(g, api.CellEmpty) {
			return order[:n+1]
		}
	}
	panic("no group has an empty slot")
}

// find: the key's slot; -1: there is none.
func (p *plain) find(h uint64, key string) int {
	for _, g := range p.way(h) {
		for s := 8 * g; s < 8*g+8; s++ {
			if c := p.cells[s]; c.Kind == api.CellFull && c.Tag == int(h%128) && c.Key == key {
				return s
			}
		}
	}
	return -1
}

// vacant: the first slot on the way that is empty or deleted.
func (p *plain) vacant(h uint64) int {
	for _, g := range p.way(h) {
		for s := 8 * g; s < 8*g+8; s++ {
			if p.cells[s].Kind != api.CellFull {
				return s
			}
		}
	}
	panic("no vacant slot")
}

func (p *plain) put(h uint64, key, elem string, birth int) int {
	if s := p.find(h, key); s >= 0 {
		p.cells[s].Elem = elem
		return api.PutReplaced
	}
	s := p.vacant(h)
	if p.cells[s].Kind == api.CellEmpty {
		if p.left == 0 {
			return api.PutNoRoom
		}
		p.left--
	}
	p.cells[s] = api.Cell{Kind: api.CellFull, Tag: int(h % 128), Key: key, Elem: elem, Birth: birth}
	return api.PutAdded
}

func (p *plain) delete(h uint64, key string) bool {
	s := p.find(h, key)
	if s < 0 {
		return false
	}
	p.cells[s] = api.Cell{Kind: api.CellDeleted}
	if p.holds(s/8, api.CellEmpty) {
		p.cells[s] = api.Cell{Kind: api.CellEmpty}
		p.left++
	}
	return true
}

// needed: does a full cell of another group pass this one?
func (p *plain) needed(g int, of hasher) bool {
	for s, c := range p.cells {
		if c.Kind != api.CellFull || s/8 == g {
			continue
		}
		order := p.order(of(c.Key))
		if slices.Index(order, g) < slices.Index(order, s/8) {
			return true
		}
	}
	return false
}

// prune: the marks of each group that doesn't need them go: how many.
func (p *plain) prune(of hasher) int {
	n := 0
	for g := range len(p.cells) / 8 {
		if p.needed(g, of) {
			continue
		}
		for s := 8 * g; s < 8*g+8; s++ {
			if p.cells[s].Kind == api.CellDeleted {
				p.cells[s].Kind = api.CellEmpty
				n++
			}
		}
	}
	p.left += n
	return n
}

// resized: a new table with so many slots and the full cells.
func (p *plain) resized(slots int, of hasher) *plain {
	fresh := newPlain(slots, p.depth)
	for _, c := range p.fulls() {
		fresh.put(of(c.Key), c.Key, c.Elem, c.Birth)
	}
	return fresh
}

// split: two new ones, by the bit behind the depth's top bits. (Behind a shift by the depth it is the highest one.)
func (p *plain) split(of hasher) (low, high *plain) {
	low, high = newPlain(len(p.cells), p.depth+1), newPlain(len(p.cells), p.depth+1)
	for _, c := range p.fulls() {
		h, to := of(c.Key), low
		if h<<p.depth >= 1<<63 {
			to = high
		}
		to.put(h, c.Key, c.Elem, c.Birth)
	}
	return low, high
}

// header: its 64 bytes, where its groups lie there.
func (p *plain) header(groups int) string {
	var s strings.Builder
	for _, v := range []int{p.kind, p.pins, p.next, p.of(api.CellFull), len(p.cells), p.left, p.depth, groups} {
		s.WriteString(number(v))
	}
	return s.String()
}

// groups: their bytes, as the chapters 3 and 6 lay them.
func (p *plain) groups(l api.Layout) string {
	var s strings.Builder
	for g := 0; g < len(p.cells); g += 8 {
		for _, c := range p.cells[g : g+8] {
			s.WriteByte(byte([]int{128, 254, c.Tag}[c.Kind]))
		}
		for _, c := range p.cells[g : g+8] {
			slot := make([]byte, l.Slot)
			if c.Kind == api.CellFull {
				copy(slot, c.Key)
				copy(slot[l.ElemOff:], c.Elem)
				copy(slot[l.BirthOff:], number(c.Birth))
			}
			s.Write(slot)
		}
	}
	return s.String()
}

// bench: a table among marked blocks and free ones of all the classes that its replacements take, and what it must hold.
type bench struct {
	t      *testing.T
	a      *arena.Arena
	l      api.Layout
	tb     table.Table
	groups int // the groups' block
	p      *plain
	o      *oracle.Oracle
	seed   uint64
	births int
	want   picture // the arena, but for the table's two blocks
}

// set: a bench whose table is new. Of the classes that it and the tables in its place take there is a free block each, as marked as the others once were.
func set(t *testing.T, d [5]int, slots, depth int, o *oracle.Oracle, seed uint64) *bench {
	t.Helper()
	b := &bench{t: t, a: open(t, 1<<20), l: lay(t, d), p: newPlain(slots, depth), o: o, seed: seed}
	n := slots / 8 * b.l.Group
	offs, e := b.a.AllocAll(n, 64, 2*n, 64, 16, 64, n, n, 64, 48)
	answers(t, "AllocAll", e, api.OK)
	for off, size := range b.a.Blocks() {
		answers(t, "Write", b.a.Write(off, strings.Repeat("\xA5", size)), api.OK)
	}
	answers(t, "Free", b.a.Free(offs[8], offs[6], offs[3], offs[0], offs[2]), api.OK)
	tb, e := table.New(b.a, b.l, slots, depth)
	answers(t, "table.New", e, api.OK)
	b.tb = tb
	b.want = look(t, b.a)
	st, _ := tb.Stat()
	b.groups = st.Groups
	b.holds("table.New")
	return b
}

// of: the hash with which the bench puts a key.
func (b *bench) of(key string) uint64 { return b.o.Hash(b.seed, key) }

// picture: the arena as it must be.
func (b *bench) picture() picture {
	p := b.want.copied()
	bytes := b.p.groups(b.l)
	p.bytes[b.tb.Off()] = b.p.header(b.groups)
	p.bytes[b.groups] = bytes + strings.Repeat("\x00", arena.Class(len(bytes))-len(bytes))
	return p
}

// holds: all bytes of the arena are as they must be.
func (b *bench) holds(what string) {
	b.t.Helper()
	like(b.t, what, b.a, b.picture())
}

// put: the key of that number is put, in the table and in the plain one, with a birth of its own: the outcome.
func (b *bench) put(key int) int {
	b.t.Helper()
	return b.putWith(b.of(text(b.l.Key, key)), key)
}

func (b *bench) putWith(h uint64, key int) int {
	b.t.Helper()
	b.births++
	k, elem := text(b.l.Key, key), text(b.l.Elem, b.births)
	want := b.p.put(h, k, elem, b.births)
	if n, e := b.tb.Put(h, k, elem, b.births); n != want || e != api.OK {
		b.t.Fatalf("Put(%#x, %.24q) = %d, error %d, want %d", h, k, n, e, want)
	}
	return want
}

// delete: the key of that number is deleted, in the table and in the plain one: was it there?
func (b *bench) delete(key int) bool {
	b.t.Helper()
	k := text(b.l.Key, key)
	want := b.p.delete(b.of(k), k)
	if was, e := b.tb.Delete(b.of(k), k); was != want || e != api.OK {
		b.t.Fatalf("Delete(%.24q) = %v, error %d, want %v", k, was, e, want)
	}
	return want
}

// dress: numbers in the header that no replacement takes over.
func (b *bench) dress() {
	b.t.Helper()
	b.p.pins, b.p.next, b.p.kind = 3, 7777, 4
	_, e := b.tb.Pin(3)
	answers(b.t, "Pin", e, api.OK)
	answers(b.t, "Retire", b.tb.Retire(7777), api.OK)
}

// lose: the room is less by n than it might be.
func (b *bench) lose(n int) {
	b.t.Helper()
	b.p.left -= n
	answers(b.t, "AddLeft", b.tb.AddLeft(-n), api.OK)
}

// crowd: the keys from 1 on, as many as there is room for; then one in every so many (0: none) is left, the others deleted, in an order drawn by r.
func (b *bench) crowd(r *rand.Rand, every int) {
	b.t.Helper()
	n := 1
	for b.p.left > 0 {
		b.put(n)
		n++
	}
	for _, key := range r.Perm(n - 1) {
		if every == 0 || r.Intn(every) > 0 {
			b.delete(1 + key)
		}
	}
}

// prunes: Prune answers and does what the plain table says: how many marks went.
func (b *bench) prunes(what string, o *oracle.Oracle, seed uint64) int {
	b.t.Helper()
	want := b.p.prune(with(o, seed))
	if n, e := grow.Prune(b.tb, o, seed); n != want || e != api.OK {
		b.t.Fatalf("%s: P9.2: Prune = %d, error %d, want %d", what, n, e, want)
	}
	b.holds(what + ": P9.2")
	return want
}

// found: every key of the table is found where it lies, and a deleted one isn't.
func (b *bench) found(what string) {
	b.t.Helper()
	for s, c := range b.p.cells {
		if c.Kind != api.CellFull {
			continue
		}
		if n, e := b.tb.Find(b.of(c.Key), c.Key); n != s || e != api.OK {
			b.t.Fatalf("%s: P9.3: Find of %.24q = %d, error %d, want %d", what, c.Key, n, e, s)
		}
	}
}

// kind: oracles by how their hashes lie together.
type kind struct {
	name string
	over func(width int) []api.Over
}

var kinds = []kind{
	{"hashes all the same", func(width int) []api.Over {
		return overs(width, func(int) uint64 { return hash(5, 9) })
	}},
	{"few hashes", func(width int) []api.Over {
		return overs(width, func(i int) uint64 {
			return []uint64{hash(0, 0), hash(1<<57-1, 127), hash(3, 5), hash(1<<56+6, 5), hash(1<<55, 0)}[i%5]
		})
	}},
	{"hashes of one home and many tags", func(width int) []api.Over {
		return overs(width, func(i int) uint64 { return hash(2, i) })
	}},
	{"many hashes", func(int) []api.Over { return nil }},
}

// overs: overrides for the keys of the numbers 1 to 64.
func overs(width int, of func(i int) uint64) []api.Over {
	var l []api.Over
	for i := 1; i <= 64; i++ {
		l = append(l, api.Over{Key: text(width, i), Hash: of(i)})
	}
	return l
}

// benches: each layout with each size and each kind of hashes.
func benches(t *testing.T, each func(name string, b *bench)) {
	t.Helper()
	for i, d := range descriptors {
		for _, slots := range sizes {
			for _, k := range kinds {
				o := ask(t, k.over(d[0])...)
				each(fmt.Sprintf("%v, %d slots, %s", d, slots, k.name), set(t, d, slots, i%6, o, 40+uint64(i)))
			}
		}
	}
}

// others: an oracle and a seed with which the bench's keys were not put: another seed alone, other overrides.
func (b *bench) others() []hashing {
	few := kinds[1].over(b.l.Key)
	slices.Reverse(few)
	for i := range few {
		few[i].Key = text(b.l.Key, 1+i)
	}
	return []hashing{{b.o, b.seed + 1}, {ask(b.t), 977}, {ask(b.t, few...), b.seed}}
}

type hashing struct {
	o    *oracle.Oracle
	seed uint64
}

// call: a call that a dead table refuses, and its results beside the error, each with what it is worth when there is none.
type call struct {
	name string
	do   func(tb table.Table, o *oracle.Oracle, seed uint64) (got, zero any, e api.Errno)
}

var calls = []call{
	{"Prune", func(tb table.Table, o *oracle.Oracle, seed uint64) (any, any, api.Errno) {
		n, e := grow.Prune(tb, o, seed)
		return n, 0, e
	}},
	{"Renew", func(tb table.Table, o *oracle.Oracle, seed uint64) (any, any, api.Errno) {
		n, e := grow.Renew(tb, o, seed)
		return n, table.Table{}, e
	}},
	{"Double", func(tb table.Table, o *oracle.Oracle, seed uint64) (any, any, api.Errno) {
		n, e := grow.Double(tb, o, seed)
		return n, table.Table{}, e
	}},
	{"Split", func(tb table.Table, o *oracle.Oracle, seed uint64) (any, any, api.Errno) {
		l, h, e := grow.Split(tb, o, seed)
		return [2]table.Table{l, h}, [2]table.Table{}, e
	}},
}

func named(name string) call {
	for _, c := range calls {
		if c.name == name {
			return c
		}
	}
	panic(name)
}

// refuses: the call answers this error, and beside it nothing.
func refuses(t *testing.T, what string, c call, tb table.Table, o *oracle.Oracle, want api.Errno) {
	t.Helper()
	got, zero, e := c.do(tb, o, 0)
	if e != want || got != zero {
		t.Fatalf("%s: %s: error %d, want %d; are all other answers zero: %v", what, c.name, e, want, got == zero)
	}
}

// refusesAll: so it is, and the arena stays as it is.
func refusesAll(t *testing.T, what string, c call, tb table.Table, o *oracle.Oracle, want api.Errno) {
	t.Helper()
	before := look(t, tb.Arena())
	refuses(t, what, c, tb, o, want)
	like(t, what+": "+c.name, tb.Arena(), before)
}
