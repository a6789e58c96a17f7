package tools_test

import (
	"fmt"
	"math"
	"strconv"
	"strings"
	"testing"

	"larder/api"
	"larder/audit"
	"larder/small"
	"larder/store"
	"larder/swiss"
	"larder/table"
)

// chapter: the descriptor of the chapter's examples.
var chapter = []int{1, 1, 1, 1, 16}

// wide: a descriptor of another shape: longer keys, longer elems.
var wide = []int{4, 2, 1, 1, 32}

const (
	least = math.MinInt
	most  = math.MaxInt
)

func begin(t testing.TB, limit int, over ...api.Over) *store.Store {
	t.Helper()
	s, e := store.New(limit, over...)
	if e != api.OK {
		t.Fatalf("store.New: error %d", e)
	}
	return s
}

// made: a map with the keys of these numbers, whose elems tell the number and the map: its handle.
func made(t testing.TB, s *store.Store, seed uint64, fields []int, numbers ...int) int {
	t.Helper()
	h, e := s.Make(seed, 0, fields...)
	if e != api.OK {
		t.Fatalf("Make: error %d", e)
	}
	for _, n := range numbers {
		if _, e := s.Put(h, key(fields[0], n), elem(fields[1], n+h)); e != api.OK {
			t.Fatalf("Put: error %d", e)
		}
	}
	return h
}

// spelt: a map with these pairs, "ax by": its handle.
func spelt(t testing.TB, s *store.Store, seed uint64, fields []int, pairs string) int {
	t.Helper()
	h := made(t, s, seed, fields)
	for _, p := range strings.Fields(pairs) {
		if _, e := s.Put(h, p[:1], p[1:]); e != api.OK {
			t.Fatalf("Put: error %d", e)
		}
	}
	return h
}

// key: the key with that number, of so many bytes. (37 is odd: all keys of a width are told apart, and do not come in their order.)
func key(width, n int) string {
	b := make([]byte, width)
	for i := range b {
		b[i] = byte(n * 37 >> (8 * i))
	}
	return string(b)
}

func elem(width, n int) string { return key(width, n+91) }

// numbers: from one up to another.
func numbers(from, to int) []int {
	var l []int
	for n := from; n < to; n++ {
		l = append(l, n)
	}
	return l
}

// bench: the chapter's store: the map 1 is a x, b y, the map 2 is b z, c z.
func bench(t testing.TB) *store.Store {
	t.Helper()
	s := begin(t, 65536)
	spelt(t, s, 0, chapter, "ax by")
	spelt(t, s, 9, []int{1, 1, 1, 1, 64}, "bz cz")
	return s
}

// The handles of the world.
const (
	few       = 1  // a map with a small block: a x, b y
	many      = 2  // a map with a directory of several tables: 60 keys
	bare      = 3  // a map without keys
	deadMap   = 4  // a map that is released
	fewWalk   = 5  // a walk that stands on few's block
	manyWalk  = 6  // a walk that stands on a table of many
	deadWalk  = 7  // a walk over few that is released
	grown     = 8  // a map with tables, and with a retired small block
	grownWalk = 9  // a walk that stands on that small block
	doneWalk  = 10 // a walk over few that is done
	lostWalk  = 11 // a walk over deadMap
	longKeys  = 12 // a map of another shape: its keys are longer
	longElems = 13 // and one whose elems are
	nextFree  = 14 // the next handle
)

// world: a store with a handle of every kind; each call makes it anew, just the same.
func world(t testing.TB) *store.Store {
	t.Helper()
	s := begin(t, 1<<20, api.Over{Key: "a", Hash: 5}, api.Over{Key: "b", Hash: 5})
	is := func(want, h int) {
		t.Helper()
		if h != want {
			t.Fatalf("the world: handle %d, want %d", h, want)
		}
	}
	walks := func(over, steps int) int {
		h, _ := s.Open(over, 3, 9)
		for range steps {
			s.Next(h)
		}
		return h
	}
	is(few, spelt(t, s, 1, chapter, "ax by"))
	is(many, made(t, s, 2, chapter, numbers(0, 60)...))
	is(bare, made(t, s, 3, []int{1, 1, 1, 1, 32}))
	is(deadMap, made(t, s, 4, chapter, 1, 2, 3))
	is(fewWalk, walks(few, 1))
	is(manyWalk, walks(many, 17))
	is(deadWalk, walks(few, 1))
	is(grown, made(t, s, 5, []int{1, 1, 1, 1, 64}, numbers(50, 58)...))
	is(grownWalk, walks(grown, 3))
	for n := 58; n < 80; n++ {
		s.Put(grown, key(1, n), "h")
	}
	is(doneWalk, walks(few, 9))
	is(lostWalk, walks(deadMap, 1))
	is(longKeys, made(t, s, 6, []int{2, 1, 1, 1, 16}, 1, 2, 3))
	is(longElems, made(t, s, 7, []int{1, 2, 1, 1, 16}, 1, 2, 3))
	if e := s.Release(deadWalk, deadMap); e != api.OK {
		t.Fatalf("the world: Release: error %d", e)
	}
	is(nextFree, s.Hold().Next)
	return s
}

// wrongHandles: those of the world that are no live map's, each with its error.
var wrongHandles = []struct {
	h int
	e api.Errno
}{
	{0, api.ErrHandle}, {-1, api.ErrHandle}, {-few, api.ErrHandle}, {least, api.ErrHandle}, {most, api.ErrHandle}, {nextFree, api.ErrHandle}, {nextFree + 1, api.ErrHandle}, {1 << 32, api.ErrHandle},
	{deadMap, api.ErrGone}, {deadWalk, api.ErrGone}, {lostWalk, api.ErrGone},
	{fewWalk, api.ErrKind}, {manyWalk, api.ErrKind}, {grownWalk, api.ErrKind}, {doneWalk, api.ErrKind},
}

// state: all that can be asked of a store without changing it: what it keeps, its handles, its arena's end, its blocks and their bytes.
func state(s *store.Store) string {
	a := s.Arena()
	var text strings.Builder
	fmt.Fprint(&text, s.Hold(), s.Handles(), a.Live(), a.End(), a.Parts())
	for off, size := range a.Blocks() {
		b, e := a.Read(off, size)
		fmt.Fprintf(&text, "%d %x\n", e, b)
	}
	return text.String()
}

// root: where a live map lies.
func root(t testing.TB, s *store.Store, h int) api.Root {
	t.Helper()
	for _, k := range s.Hold().Maps {
		if k.Handle == h {
			return k.Root
		}
	}
	t.Fatalf("%d is no live map", h)
	return api.Root{}
}

// pairsOf: a map's pairs in rising order, by the bytes alone.
func pairsOf(t testing.TB, s *store.Store, h int) []api.Pair {
	t.Helper()
	return audit.Pairs(s.Arena(), s.Oracle(), root(t, s, h))
}

// text: a map's pairs, "ax by".
func text(t testing.TB, s *store.Store, h int) string {
	t.Helper()
	var l []string
	for _, p := range pairsOf(t, s, h) {
		l = append(l, p.Key+p.Elem)
	}
	return plainText(strings.Join(l, " "))
}

// plainText: with each byte that is no plain letter told by its number, as in a string of the language.
func plainText(s string) string {
	q := strconv.QuoteToASCII(s)
	return q[1 : len(q)-1]
}

// finite: a map's pairs as a map of the language.
func finite(t testing.TB, s *store.Store, h int) map[string]string {
	t.Helper()
	m := map[string]string{}
	for _, p := range pairsOf(t, s, h) {
		m[p.Key] = p.Elem
	}
	return m
}

// stands: how many pins there are in all maps, and how many retired ones.
func stands(s *store.Store) (pins, retired int) {
	for _, r := range s.Roots() {
		m := swiss.At(s.Arena(), r.Layout, s.Oracle(), r.Off)
		if b, yes, _ := m.Small(); yes {
			st, _ := b.Stat()
			pins += st.Pins
		}
		if d, yes, _ := m.Dir(); yes {
			for _, off := range d.Tables() {
				st, _ := table.At(s.Arena(), r.Layout, off).Stat()
				pins += st.Pins
			}
		}
		offs, _ := m.Retired()
		for _, off := range offs {
			st, _ := small.At(s.Arena(), r.Layout, off).Stat() // the words of both headers lie alike
			pins += st.Pins
		}
		retired += len(offs)
	}
	return pins, retired
}

// sound: the audit finds nothing.
func sound(t testing.TB, s *store.Store) {
	t.Helper()
	if f := audit.Check(s.Arena(), s.Oracle(), s.Roots()...); f.Code != audit.Fine {
		t.Fatalf("U7: the audit finds %+v", f)
	}
}

// hashes: overrides by which keys of one byte lie close together, or far apart.
var hashes = map[string]func(n int) uint64{
	"hashes all the same": func(int) uint64 { return 5*128 + 9 },
	"few hashes":          func(n int) uint64 { return []uint64{0, math.MaxUint64, 3*128 + 5, 1 << 63, 1 << 62}[n%5] },
	"many hashes":         nil,
}

// overs: overrides for the keys of one byte with the numbers 0 to 63.
func overs(of func(n int) uint64) []api.Over {
	var l []api.Over
	for n := 0; of != nil && n < 64; n++ {
		l = append(l, api.Over{Key: key(1, n), Hash: of(n)})
	}
	return l
}

// short: what a message can hold.
func short(what any) string {
	l := plainText(fmt.Sprintf("%+v", what))
	if len(l) > 400 {
		return l[:400] + " .."
	}
	return l
}

// asPlainly: a call on one store answers what plain steps on another one answer that is just like it; both are alike, byte by byte, behind that. What each answers is held against the other as text.
func asPlainly(t testing.TB, what string, build func() *store.Store, real, plain func(s *store.Store) (any, api.Errno)) (any, api.Errno) {
	t.Helper()
	s, u := build(), build()
	if state(s) != state(u) {
		t.Fatalf("%s: the two stores are not alike", what)
	}
	got, e := real(s)
	want, f := plain(u)
	if fmt.Sprintf("%q", got) != fmt.Sprintf("%q", want) || e != f {
		t.Fatalf("%s = %s, error %d; want %s, error %d", what, short(got), e, short(want), f)
	}
	if state(s) != state(u) {
		t.Fatalf("%s = %s, error %d: the store is not what plain steps make of it", what, short(got), e)
	}
	sound(t, s)
	return got, e
}
