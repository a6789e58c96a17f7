package order_test

import (
	"fmt"
	"maps"
	"math"
	"math/rand"
	"slices"
	"strings"
	"testing"

	"larder/api"
	"larder/arena"
	"larder/layout"
	"larder/order"
)

// descriptors: elems of width 0, 1 and more; keys of width 1 and more; with gaps and without.
var descriptors = [][5]int{
	{1, 1, 1, 1, 16}, // the chapter's
	{1, 0, 1, 1, 32}, // an elem of no bytes
	{2, 6, 2, 2, 16}, // no gap
	{5, 4, 1, 4, 64}, // a gap behind the key, one behind the elem
	{8, 16, 8, 8, 32},
	{128, 128, 8, 8, 1024}, // the greatest
}

// far: numbers that lie a long way from every offset and number of keys, and the ones that a sum wraps round at.
var far = []int{math.MinInt, math.MinInt + 1, -1 << 61, -1 << 32, -4097, -64, -1, 1 << 32, 1 << 61, math.MaxInt - 63, math.MaxInt - 1, math.MaxInt}

func answers(t *testing.T, what string, got, want api.Errno) {
	t.Helper()
	if got != want {
		t.Fatalf("%s: error %d, want %d", what, got, want)
	}
}

func lay(t *testing.T, d [5]int) api.Layout {
	t.Helper()
	l, e := layout.Parse(d[:]...)
	answers(t, fmt.Sprint("Parse of ", d), e, api.OK)
	return l
}

func open(t *testing.T, limit int) *arena.Arena {
	t.Helper()
	a, e := arena.New(limit)
	answers(t, "arena.New", e, api.OK)
	return a
}

func made(t *testing.T, a *arena.Arena, l api.Layout) order.Tree {
	t.Helper()
	x, e := order.New(a, l)
	answers(t, "P26.1: New", e, api.OK)
	return x
}

// nodeBytes: the chapter's N.
func nodeBytes(l api.Layout) int { return arena.Class(192 + 8*l.Slot) }

// drawer: numbers that a seed fixes.
type drawer struct{ *rand.Rand }

func draws(seed int64) drawer { return drawer{rand.New(rand.NewSource(seed))} }

func pick[T any](d drawer, list ...T) T { return list[d.Intn(len(list))] }

// key: a text of n bytes for each number, rising with it: the last two bytes count.
func key(n, number int) string {
	b := []byte(strings.Repeat("k", n))
	b[n-1] = byte(number)
	if n > 1 {
		b[n-2] = byte(number / 256)
	}
	return string(b)
}

// elem: a text of n bytes that tells which of several it is.
func elem(n, which int) string {
	b := make([]byte, n)
	for i := range b {
		b[i] = byte(which*7 + 41*i)
	}
	return string(b)
}

// widths: texts that have not n bytes: empty, shorter, longer, long.
func widths(n int) []string {
	var l []string
	for _, m := range []int{0, n - 1, n + 1, 2*n + 1, 300} {
		if m >= 0 && m != n {
			l = append(l, strings.Repeat("q", m))
		}
	}
	return l
}

// texts: texts of all lengths up to three over bytes at the edges, and some longer ones: what may be asked for by Floor, Ceiling, Rank, and as a bound.
func texts() []string {
	l := []string{""}
	letters := []string{"\x00", "a", "k", "\x7F", "\x80", "\xFF"}
	for first := 0; len(l[len(l)-1]) < 3; first++ {
		for _, c := range letters {
			l = append(l, l[first]+c)
		}
	}
	long := strings.Repeat("k", 130)
	return append(l, "kkkk", "kkkk\x05", "kkkk\x05\x00", "kkkk\x05z", long, long[:127]+"\x04", long[:128]+"\x00", strings.Repeat("\xFF", 200))
}

// picture: all that an arena tells.
type picture struct {
	limit, live, end int
	parts            []api.Part
	bytes            map[int]string // of the live blocks, by their offset
}

func look(t *testing.T, a *arena.Arena) picture {
	t.Helper()
	p := picture{limit: a.Limit(), live: a.Live(), end: a.End(), parts: a.Parts(), bytes: map[int]string{}}
	for off, size := range a.Blocks() {
		s, e := a.Read(off, size)
		answers(t, "Read of a whole block", e, api.OK)
		p.bytes[off] = s
	}
	return p
}

// like: the arena is what the picture says.
func like(t *testing.T, what string, a *arena.Arena, want picture) {
	t.Helper()
	now := look(t, a)
	if now.limit != want.limit || now.live != want.live || now.end != want.end || !slices.Equal(now.parts, want.parts) || !maps.Equal(now.bytes, want.bytes) {
		t.Fatalf("%s: the arena has changed: live %d, end %d, it was %d, %d, or bytes of a block", what, now.live, now.end, want.live, want.end)
	}
}

// twin: an arena with that limit, with the same blocks and bytes.
func twin(t *testing.T, a *arena.Arena, limit int) *arena.Arena {
	t.Helper()
	var bytes strings.Builder
	for off, size := range a.Blocks() {
		s, _ := a.Read(off, size)
		bytes.WriteString(s)
	}
	b, e := arena.Restore(limit, a.Parts(), bytes.String())
	answers(t, "arena.Restore", e, api.OK)
	return b
}

// call: a call with all its results, and what they are worth beside an error.
type call struct {
	name string
	do   func(x order.Tree) (got, zero any, e api.Errno)
}

// pairAnswer: what Floor, Ceiling and Nth answer.
type pairAnswer struct {
	p  api.Pair
	ok bool
}

// calls: all calls that may be refused, with that key and elem; text and i are what may be anything.
func calls(key, elem, text string, i int) []call {
	return []call{
		{"Stat", func(x order.Tree) (any, any, api.Errno) {
			s, e := x.Stat()
			return s, api.OrderStat{}, e
		}},
		{"Get", func(x order.Tree) (any, any, api.Errno) {
			s, ok, e := x.Get(key)
			return pairAnswer{api.Pair{Elem: s}, ok}, pairAnswer{}, e
		}},
		{"Put", func(x order.Tree) (any, any, api.Errno) {
			ok, e := x.Put(key, elem)
			return ok, false, e
		}},
		{"Delete", func(x order.Tree) (any, any, api.Errno) {
			ok, e := x.Delete(key)
			return ok, false, e
		}},
		{"Floor", func(x order.Tree) (any, any, api.Errno) {
			p, ok, e := x.Floor(text)
			return pairAnswer{p, ok}, pairAnswer{}, e
		}},
		{"Ceiling", func(x order.Tree) (any, any, api.Errno) {
			p, ok, e := x.Ceiling(text)
			return pairAnswer{p, ok}, pairAnswer{}, e
		}},
		{"Rank", func(x order.Tree) (any, any, api.Errno) {
			n, e := x.Rank(text)
			return n, 0, e
		}},
		{"Nth", func(x order.Tree) (any, any, api.Errno) {
			p, ok, e := x.Nth(i)
			return pairAnswer{p, ok}, pairAnswer{}, e
		}},
		{"Cut", func(x order.Tree) (any, any, api.Errno) {
			n, e := x.Cut("", text)
			return n, 0, e
		}},
		{"Free", func(x order.Tree) (any, any, api.Errno) { return nil, nil, x.Free() }},
	}
}

// refuses: the call answers this error, beside it nothing, and the arena stays as it is.
func refuses(t *testing.T, what string, a *arena.Arena, x order.Tree, c call, want api.Errno) {
	t.Helper()
	before := look(t, a)
	got, zero, e := c.do(x)
	if e != want || got != zero {
		t.Fatalf("%s: %s: %#v, error %d, want %#v, %d", what, c.name, got, e, zero, want)
	}
	like(t, what+": "+c.name, a, before)
}
