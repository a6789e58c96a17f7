package typed_test

import (
	"fmt"
	"math"
	"strings"
	"testing"

	"larder/api"
	"larder/audit"
	"larder/small"
	"larder/store"
	"larder/swiss"
	"larder/table"
	"larder/typed"
)

// Short names of the codecs, as values of the interface.
var (
	whole   typed.Codec[int64]   = typed.Int{}
	natural typed.Codec[uint64]  = typed.Uint{}
	float   typed.Codec[float64] = typed.Float{}
	truth   typed.Codec[bool]    = typed.Bool{}
)

func text(most int) typed.Codec[string] { return typed.Text{Most: most} }

func both[A, B any](first typed.Codec[A], second typed.Codec[B]) typed.Codec[typed.Two[A, B]] {
	return typed.Both[A, B]{First: first, Second: second}
}

func two[A, B any](first A, second B) typed.Two[A, B] {
	return typed.Two[A, B]{First: first, Second: second}
}

// own: a codec of the caller's own, made of its parts. Lay answers the bytes, whatever their length; read is handed what it is handed.
type own[T any] struct {
	width, align int
	lay          func(v T) (string, bool)
	read         func(s string) T
}

func (c own[T]) Width() int              { return c.width }
func (c own[T]) Align() int              { return c.align }
func (c own[T]) Pack(v T) (string, bool) { return c.lay(v) }
func (c own[T]) Unpack(s string) T       { return c.read(s) }

// raw: texts that are laid as they are, whatever the width; "none" can't be. What is read is told in brackets.
func raw(width, align int) typed.Codec[string] {
	return own[string]{width, align, func(v string) (string, bool) { return v, v != "none" }, func(s string) string { return "<" + s + ">" }}
}

const (
	least = math.MinInt
	most  = math.MaxInt
)

func begin(t testing.TB, limit int, over ...api.Over) *store.Store {
	t.Helper()
	s, e := store.New(limit, over...)
	if e != api.OK {
		t.Fatalf("store.New: error %d", e)
	}
	return s
}

// made: a map of typed, with the cap 16 and no hint.
func made[K, V any](t testing.TB, s *store.Store, k typed.Codec[K], v typed.Codec[V], seed uint64) *typed.Map[K, V] {
	t.Helper()
	m, e := typed.Make(s, k, v, 16, seed, 0)
	if m == nil || e != api.OK {
		t.Fatalf("P21.8: Make: a map: %v, error %d", m != nil, e)
	}
	return m
}

// used: a handle's map, seen through these codecs.
func used[K, V any](t testing.TB, s *store.Store, k typed.Codec[K], v typed.Codec[V], h int) *typed.Map[K, V] {
	t.Helper()
	m, e := typed.Use(s, k, v, h)
	if m == nil || e != api.OK {
		t.Fatalf("P21.9: Use of %d: a map: %v, error %d", h, m != nil, e)
	}
	return m
}

// puts: the key has that value now; it was added, or it was there, as is told.
func puts[K, V any](t testing.TB, m *typed.Map[K, V], key K, v V, added bool) {
	t.Helper()
	if yes, e := m.Put(key, v); yes != added || e != api.OK {
		t.Fatalf("P21.10: Put(%v, %v) = %v, error %d; want %v", key, v, yes, e, added)
	}
}

// laid: the bytes of a value that can be laid.
func laid[T any](t testing.TB, c typed.Codec[T], v T) string {
	t.Helper()
	s, yes := c.Pack(v)
	if !yes || len(s) != c.Width() {
		t.Fatalf("%T: Pack(%v) = %q, %v: not %d bytes", c, v, s, yes, c.Width())
	}
	return s
}

// state: all that can be asked of a store without changing it: what it keeps, its handles, its arena's end, its blocks and their bytes.
func state(s *store.Store) string {
	a := s.Arena()
	var l strings.Builder
	fmt.Fprint(&l, s.Hold(), s.Handles(), a.Live(), a.End(), a.Parts())
	for off, size := range a.Blocks() {
		b, e := a.Read(off, size)
		fmt.Fprintf(&l, "%d %x\n", e, b)
	}
	return l.String()
}

// root: where a live map lies.
func root(t testing.TB, s *store.Store, h int) api.Root {
	t.Helper()
	for _, k := range s.Hold().Maps {
		if k.Handle == h {
			return k.Root
		}
	}
	t.Fatalf("%d is no live map", h)
	return api.Root{}
}

// stands: how many pins there are in all maps, and how many retired ones.
func stands(s *store.Store) (pins, retired int) {
	for _, r := range s.Roots() {
		m := swiss.At(s.Arena(), r.Layout, s.Oracle(), r.Off)
		if b, yes, _ := m.Small(); yes {
			st, _ := b.Stat()
			pins += st.Pins
		}
		if d, yes, _ := m.Dir(); yes {
			for _, off := range d.Tables() {
				st, _ := table.At(s.Arena(), r.Layout, off).Stat()
				pins += st.Pins
			}
		}
		offs, _ := m.Retired()
		for _, off := range offs {
			st, _ := small.At(s.Arena(), r.Layout, off).Stat() // the words of both headers lie alike
			pins += st.Pins
		}
		retired += len(offs)
	}
	return pins, retired
}

// calm: no walk stands on anything, and the audit finds nothing.
func calm(t testing.TB, what string, s *store.Store) {
	t.Helper()
	if pins, retired := stands(s); pins != 0 || retired != 0 {
		t.Fatalf("P21.11: %s: %d pins, %d retired ones", what, pins, retired)
	}
	if f := audit.Check(s.Arena(), s.Oracle(), s.Roots()...); f.Code != audit.Fine {
		t.Fatalf("U7: %s: the audit finds %+v", what, f)
	}
}

// The handles of the world.
const (
	words    = 1 // texts of 3 bytes to whole numbers: ab 5, abc -6
	crowd    = 2 // whole numbers to truth, in several tables
	bare     = 3 // a map without keys, of words' shape, with another cap and other alignments
	deadMap  = 4 // a map of words' shape that is released
	walk     = 5 // a walk over words, begun
	deadWalk = 6 // a walk over words that is released
	lostWalk = 7 // a walk over deadMap
	doneWalk = 8 // a walk over words that is done
	nextFree = 9 // the next handle
)

// crowded: how many keys the map crowd has.
const crowded = 60

// world: a store with a handle of every kind; each call makes it anew, just the same.
func world(t testing.TB) *store.Store {
	t.Helper()
	s := begin(t, 1<<20)
	is := func(want, h int) {
		t.Helper()
		if h != want {
			t.Fatalf("the world: handle %d, want %d", h, want)
		}
	}
	walks := func(over, steps int) int {
		h, _ := s.Open(over, 3, 9)
		for range steps {
			s.Next(h)
		}
		return h
	}
	m := made(t, s, text(3), whole, 1)
	puts(t, m, "ab", 5, true)
	puts(t, m, "abc", -6, true)
	is(words, m.Handle())
	c := made(t, s, whole, truth, 2)
	for n := range int64(crowded) {
		puts(t, c, n*n-700, n%3 == 0, true)
	}
	is(crowd, c.Handle())
	h, _ := s.Make(3, 20, 4, 8, 4, 2, 64)
	is(bare, h)
	is(deadMap, made(t, s, text(3), whole, 4).Handle())
	is(walk, walks(words, 1))
	is(deadWalk, walks(words, 1))
	is(lostWalk, walks(deadMap, 0))
	is(doneWalk, walks(words, 9))
	if e := s.Release(deadWalk, deadMap); e != api.OK {
		t.Fatalf("the world: Release: error %d", e)
	}
	is(nextFree, s.Hold().Next)
	return s
}

// wrongHandles: those of the world that are no live map's, each with its error.
var wrongHandles = []struct {
	h int
	e api.Errno
}{
	{0, api.ErrHandle}, {-1, api.ErrHandle}, {-words, api.ErrHandle}, {least, api.ErrHandle}, {most, api.ErrHandle}, {nextFree, api.ErrHandle}, {nextFree + 1, api.ErrHandle}, {1 << 32, api.ErrHandle}, {1<<32 + words, api.ErrHandle},
	{deadMap, api.ErrGone}, {deadWalk, api.ErrGone}, {lostWalk, api.ErrGone},
	{walk, api.ErrKind}, {doneWalk, api.ErrKind},
}
