package store_test

import (
	"fmt"
	"math"
	"slices"
	"strings"
	"testing"

	"larder/api"
	"larder/arena"
	"larder/layout"
	"larder/store"
)

// chapter: the descriptor of the chapter's examples.
var chapter = []int{1, 1, 1, 1, 16}

// descriptors: keys and elems of several widths, with gaps and without, several caps.
var descriptors = [][]int{
	chapter,
	{1, 0, 1, 1, 32}, // an elem of no bytes
	{2, 6, 2, 2, 16},
	{5, 4, 1, 4, 64},
	{128, 128, 8, 8, 1024}, // the greatest
}

// wrongFields: descriptors that are refused, each with its error.
var wrongFields = []struct {
	fields []int
	e      api.Errno
}{
	{nil, api.ErrFields}, {[]int{1}, api.ErrFields}, {[]int{1, 1, 1, 1}, api.ErrFields}, {[]int{1, 1, 1, 1, 16, 16}, api.ErrFields},
	{[]int{0, -1, 3, 3, 3}, api.ErrKey}, {[]int{129, 1, 1, 1, 16}, api.ErrKey}, {[]int{math.MinInt, 1, 1, 1, 16}, api.ErrKey},
	{[]int{1, -1, 3, 3, 3}, api.ErrElem}, {[]int{1, 129, 1, 1, 16}, api.ErrElem},
	{[]int{6, 1, 4, 1, 3}, api.ErrAlign}, {[]int{6, 6, 2, 16, 16}, api.ErrAlign}, {[]int{1, 1, 0, 1, 16}, api.ErrAlign},
	{[]int{1, 1, 1, 1, 8}, api.ErrCap}, {[]int{1, 1, 1, 1, 17}, api.ErrCap}, {[]int{1, 1, 1, 1, 2048}, api.ErrCap},
}

func answers(t *testing.T, what string, got, want api.Errno) {
	t.Helper()
	if got != want {
		t.Fatalf("%s: error %d, want %d", what, got, want)
	}
}

// begin: a store without maps.
func begin(t *testing.T, limit int, over ...api.Over) *store.Store {
	t.Helper()
	s, e := store.New(limit, over...)
	answers(t, "P14.1: New", e, api.OK)
	return s
}

// made: a map is made, and these letters are put, each with the elem x: its handle.
func made(t *testing.T, s *store.Store, letters string) int {
	t.Helper()
	h, e := s.Make(7, 0, chapter...)
	answers(t, "P14.2: Make", e, api.OK)
	for _, k := range letters {
		_, e := s.Put(h, string(k), "x")
		answers(t, "P14.3: Put", e, api.OK)
	}
	return h
}

// opened: a walk over the map, so many steps on: its handle.
func opened(t *testing.T, s *store.Store, h, steps int) int {
	t.Helper()
	w, e := s.Open(h, 0, 0)
	answers(t, "P14.5: Open", e, api.OK)
	for range steps {
		_, _, e := s.Next(w)
		answers(t, "P14.5: Next", e, api.OK)
	}
	return w
}

// letters: so many one-byte keys.
func letters(n int) string {
	b := make([]byte, n)
	for i := range b {
		b[i] = byte('!' + i)
	}
	return string(b)
}

func lay(t *testing.T, fields []int) api.Layout {
	t.Helper()
	l, e := layout.Parse(fields...)
	answers(t, fmt.Sprint("layout.Parse of ", fields), e, api.OK)
	return l
}

// text: n bytes that tell which of several texts it is.
func text(n, which int) string {
	b := make([]byte, n)
	for i := range b {
		b[i] = byte(41 * i)
		if i < 3 {
			b[i] += byte(which >> (8 * i))
		}
	}
	return string(b)
}

// picture: all that an arena tells.
type picture struct {
	limit, live, end int
	parts            []api.Part
	bytes            string // of the live blocks, one behind the other
}

func look(t *testing.T, a *arena.Arena) picture {
	t.Helper()
	p := picture{limit: a.Limit(), live: a.Live(), end: a.End(), parts: a.Parts()}
	var b strings.Builder
	for off, size := range a.Blocks() {
		s, e := a.Read(off, size)
		answers(t, "Read of a whole block", e, api.OK)
		b.WriteString(s)
	}
	p.bytes = b.String()
	return p
}

// like: the arena is what the picture says, byte by byte.
func like(t *testing.T, what string, a *arena.Arena, want picture) {
	t.Helper()
	now := look(t, a)
	if now.limit != want.limit || now.live != want.live || now.end != want.end || !slices.Equal(now.parts, want.parts) {
		t.Fatalf("%s: U7: the blocks are %v, live %d, end %d, want %v, %d, %d", what, now.parts, now.live, now.end, want.parts, want.live, want.end)
	}
	if now.bytes == want.bytes {
		return
	}
	at := 0
	for _, p := range now.parts {
		if !p.Live {
			continue
		}
		if got, wanted := now.bytes[at:at+p.Size], want.bytes[at:at+p.Size]; got != wanted {
			t.Fatalf("%s: U7: the block at %d is %.200q, want %.200q", what, p.Off, got, wanted)
		}
		at += p.Size
	}
}

// twin: an arena of the same blocks and bytes.
func twin(t *testing.T, a *arena.Arena) *arena.Arena {
	t.Helper()
	b, e := arena.Restore(a.Limit(), a.Parts(), look(t, a).bytes)
	answers(t, "arena.Restore", e, api.OK)
	return b
}

// state: all that a store tells of itself.
type state struct {
	arena   picture
	handles []int
	roots   []api.Root
	hold    api.Hold
}

func stateOf(t *testing.T, s *store.Store) state {
	t.Helper()
	return state{look(t, s.Arena()), s.Handles(), s.Roots(), s.Hold()}
}

// unchanged: the store tells what it told.
func unchanged(t *testing.T, what string, s *store.Store, was state) {
	t.Helper()
	like(t, what, s.Arena(), was.arena)
	if hs := s.Handles(); !slices.Equal(hs, was.handles) {
		t.Fatalf("%s: Handles = %v, want %v", what, hs, was.handles)
	}
	if rs := s.Roots(); !slices.Equal(rs, was.roots) {
		t.Fatalf("%s: Roots = %v, want %v", what, rs, was.roots)
	}
	sameHold(t, what, s.Hold(), was.hold)
}

func sameHold(t *testing.T, what string, got, want api.Hold) {
	t.Helper()
	if got.Next != want.Next || !slices.Equal(got.Over, want.Over) || !slices.Equal(got.Maps, want.Maps) {
		t.Fatalf("%s: P14.10: Hold = %#v, want %#v", what, got, want)
	}
}

// kind: overrides by how their hashes lie together.
type kind struct {
	name string
	over func() []api.Over
}

var kinds = []kind{
	{"hashes all the same", func() []api.Over { return overs(func(int) uint64 { return 5*128 + 9 }) }},
	{"hashes of two homes", func() []api.Over { return overs(func(i int) uint64 { return uint64(i%2*128 + i%128) }) }},
	{"few hashes", func() []api.Over {
		return overs(func(i int) uint64 { return []uint64{0, math.MaxUint64, 3*128 + 5, 1 << 63, 1 << 62}[i%5] })
	}},
	{"hashes apart in their top bits alone", func() []api.Over { return overs(func(i int) uint64 { return uint64(i)*37<<58 | 5 }) }},
	{"many hashes", func() []api.Over { return nil }},
}

// overs: overrides for the keys of one byte with the numbers 1 to 64.
func overs(of func(i int) uint64) []api.Over {
	var l []api.Over
	for i := 1; i <= 64; i++ {
		l = append(l, api.Over{Key: text(1, i), Hash: of(i)})
	}
	return l
}
