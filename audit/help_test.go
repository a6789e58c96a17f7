package audit_test

import (
	"fmt"
	"slices"
	"strings"
	"testing"

	"larder/api"
	"larder/arena"
	"larder/audit"
	"larder/dir"
	"larder/layout"
	"larder/oracle"
	"larder/small"
	"larder/swiss"
	"larder/table"
)

// A map's header: where its words lie.
const (
	used, seed, births, epoch, root, depth, retired, zero = 0, 8, 16, 24, 32, 40, 48, 56
)

// A table's header (a small block's has the first four): where its words lie.
const (
	kind, pins, next, held, slots, room, deep, groups = 0, 8, 16, 24, 32, 40, 48, 56
)

// chapter: the descriptor of the chapter's examples; gappy: one with a gap behind the key (3 bytes) and one behind the elem (4 bytes).
var (
	chapter = []int{1, 1, 1, 1, 16}
	gappy   = []int{5, 4, 1, 4, 16}
)

func answers(t *testing.T, what string, got, want api.Errno) {
	t.Helper()
	if got != want {
		t.Fatalf("%s: error %d, want %d", what, got, want)
	}
}

func finds(t *testing.T, what string, got, want api.Finding) {
	t.Helper()
	if got != want {
		t.Errorf("%s: %v, want %v", what, got, want)
	}
}

func lay(t *testing.T, fields []int) api.Layout {
	t.Helper()
	l, e := layout.Parse(fields...)
	answers(t, fmt.Sprint("layout.Parse of ", fields), e, api.OK)
	return l
}

// world: an arena with maps that have one layout and one oracle.
type world struct {
	t *testing.T
	a *arena.Arena
	o *oracle.Oracle
	l api.Layout
}

// begin: an arena without blocks. The hash of a key that begins with a letter is that letter's number; of others it is mixed.
func begin(t *testing.T, fields []int) world {
	t.Helper()
	l := lay(t, fields)
	var over []api.Over
	for i := range 26 {
		over = append(over, api.Over{Key: letter(l, i), Hash: uint64(i)})
	}
	return beginWith(t, fields, over...)
}

// beginWith: an arena without blocks, with these overrides.
func beginWith(t *testing.T, fields []int, over ...api.Over) world {
	t.Helper()
	o, e := oracle.New(over...)
	answers(t, "oracle.New", e, api.OK)
	a, e := arena.New(api.MaxLimit)
	answers(t, "arena.New", e, api.OK)
	return world{t, a, o, lay(t, fields)}
}

// letter: a key that is one letter and zero bytes.
func letter(l api.Layout, i int) string { return wide(string(rune('a'+i)), l.Key) }

// wide: the text with so many bytes.
func wide(s string, n int) string { return (s + strings.Repeat("\x00", n))[:n] }

// mapOf: a map with these letters, each with an elem of its own.
func (w world) mapOf(letters string) swiss.Map {
	w.t.Helper()
	m, e := swiss.Make(w.a, w.l, w.o, 7, 0)
	answers(w.t, "Make", e, api.OK)
	w.put(m, letters)
	return m
}

func (w world) put(m swiss.Map, letters string) {
	w.t.Helper()
	for i, k := range letters {
		_, e := m.Put(wide(string(k), w.l.Key), wide(string(rune('x'+i%3)), w.l.Elem))
		answers(w.t, "Put", e, api.OK)
	}
}

func (w world) root(off int) api.Root { return api.Root{Off: off, Layout: w.l} }

func (w world) check(roots ...api.Root) api.Finding { return audit.Check(w.a, w.o, roots...) }

// load: the word at off.
func (w world) load(off int) int {
	w.t.Helper()
	v, e := w.a.Load(off, 8)
	answers(w.t, "Load", e, api.OK)
	return int(v)
}

// poke: bytes that are laid at a place.
type poke struct {
	off   int
	bytes string
}

// word: a poke of eight bytes.
func word(off, v int) poke {
	b := make([]byte, 8)
	for i := range b {
		b[i] = byte(uint64(v) >> (8 * i))
	}
	return poke{off, string(b)}
}

// one: a poke of one byte.
func one(off, v int) poke { return poke{off, string([]byte{byte(v)})} }

// lay: the pokes are laid, and what lay there is what the answer lays there again.
func (w world) lay(pokes ...poke) []poke {
	w.t.Helper()
	var back []poke
	for _, p := range pokes {
		was, e := w.a.Read(p.off, len(p.bytes))
		answers(w.t, fmt.Sprintf("a poke at %d", p.off), e, api.OK)
		back = append(back, poke{p.off, was})
		w.a.Write(p.off, p.bytes)
	}
	slices.Reverse(back)
	return back
}

// with: what f finds where the pokes are laid; behind it all is as it was.
func (w world) with(f func() api.Finding, pokes ...poke) api.Finding {
	w.t.Helper()
	back := w.lay(pokes...)
	defer w.lay(back...)
	return f()
}

// asks: with the pokes, both Check and Map answer that.
func (w world) asks(what string, off int, want api.Finding, pokes ...poke) {
	w.t.Helper()
	r := w.root(off)
	finds(w.t, what+": Map", w.with(func() api.Finding { return audit.Map(w.a, w.o, r) }, pokes...), want)
	finds(w.t, what+": Check", w.with(func() api.Finding { return w.check(r) }, pokes...), want)
}

// cell: the pokes that make slot i of the group at g full with that key, its own tag and that birth, and an elem of zeros.
func (w world) cell(g, i int, key string, birth int) []poke {
	w.t.Helper()
	at := g + layout.KeyAt(w.l, i)
	return []poke{
		one(g+i, oracle.Tag(w.o.Hash(7, key))),
		{at, wide(key, w.l.Slot)},
		word(g+layout.BirthAt(w.l, i), birth),
	}
}

// vacant: the pokes that make slot i of the group at g empty or deleted.
func (w world) vacant(g, i, mark int) []poke {
	return []poke{one(g+i, mark), {g + layout.KeyAt(w.l, i), wide("", w.l.Slot)}}
}

// picture: all that an arena tells.
func picture(a *arena.Arena) string {
	var b strings.Builder
	fmt.Fprintln(&b, a.Limit(), a.Live(), a.End(), a.Parts())
	for off, size := range a.Blocks() {
		s, _ := a.Read(off, size)
		b.WriteString(s)
	}
	return b.String()
}

// bare: a map's header that is laid by hand, with the seed 7: its offset.
func (w world) bare() int {
	w.t.Helper()
	m, e := swiss.Make(w.a, w.l, w.o, 7, 0)
	answers(w.t, "Make", e, api.OK)
	return m.Off()
}

// aTable: a table that is made by hand, with keys whose births begin at from.
func (w world) aTable(slots, depth, from int, keys ...string) table.Table {
	w.t.Helper()
	tb, e := table.New(w.a, w.l, slots, depth)
	answers(w.t, "table.New", e, api.OK)
	for i, k := range keys {
		out, e := tb.Put(w.o.Hash(7, k), k, wide("e", w.l.Elem), from+i)
		if out != api.PutAdded || e != api.OK {
			w.t.Fatalf("table.Put of %q: %d, error %d", k, out, e)
		}
	}
	return tb
}

// aSmall: a small block that is made by hand.
func (w world) aSmall(from int, keys ...string) small.Small {
	w.t.Helper()
	s, e := small.New(w.a, w.l)
	answers(w.t, "small.New", e, api.OK)
	for i, k := range keys {
		out, e := s.Put(oracle.Tag(w.o.Hash(7, k)), k, wide("e", w.l.Elem), from+i)
		if out != api.PutAdded || e != api.OK {
			w.t.Fatalf("small.Put of %q: %d, error %d", k, out, e)
		}
	}
	return s
}

// hang: below the header hang these tables, each named as often as the depth asks for; so many keys there are, and so many were ever added.
func (w world) hang(head, count, ever int, tables ...table.Table) dir.Dir {
	w.t.Helper()
	most := 0
	for _, tb := range tables {
		st, _ := tb.Stat()
		most = max(most, st.Depth)
	}
	var offs []int
	for _, tb := range tables {
		st, _ := tb.Stat()
		offs = append(offs, slices.Repeat([]int{tb.Off()}, 1<<(most-st.Depth))...)
	}
	d, e := dir.New(w.a, offs...)
	answers(w.t, "dir.New", e, api.OK)
	w.lay(word(head+used, count), word(head+births, ever), word(head+root, d.Off()), word(head+depth, d.Depth()))
	return d
}

// groupsOf: where a table's groups' block begins.
func groupsOf(t *testing.T, tb table.Table) int {
	t.Helper()
	st, e := tb.Stat()
	answers(t, "Stat", e, api.OK)
	return st.Groups
}
