package image_test

import (
	"encoding/binary"
	"fmt"
	"math"
	"strings"
	"testing"

	"larder/api"
	"larder/image"
	"larder/store"
)

// chapter: the descriptor of the chapter's example.
var chapter = []int{2, 1, 1, 1, 16}

// edges: numbers that words are made to hold.
var edges = []uint64{0, 1, 2, 3, 7, 8, 15, 16, 17, 31, 32, 48, 63, 64, 65, 80, 96, 128, 192, 255, 256, 384, 512, 768, 1 << 16, api.MaxBlock, api.MaxBlock + 1, api.MaxLimit, api.MaxLimit + 1, api.MaxMem, api.MaxMem + 1,
	1<<31 - 1, 1 << 31, 1<<32 - 1, 1 << 32, 1<<32 + 1, 1 << 59, 1 << 60, 1<<60 + 1, 1 << 61, 1<<61 + 1, 1<<62 - 1, 1 << 62, 1<<62 + 1, 1<<63 - 1, 1 << 63, 1<<63 + 1, 1<<64 - 64, 1<<64 - 16, 1<<64 - 8, 1<<64 - 7, 1<<64 - 2, 1<<64 - 1}

func begin(t testing.TB, limit int, over ...api.Over) *store.Store {
	t.Helper()
	s, e := store.New(limit, over...)
	if e != api.OK {
		t.Fatalf("store.New: error %d", e)
	}
	return s
}

// made: a map with the keys of these numbers: its handle.
func made(t testing.TB, s *store.Store, seed uint64, fields []int, numbers ...int) int {
	t.Helper()
	h, e := s.Make(seed, 0, fields...)
	if e != api.OK {
		t.Fatalf("Make: error %d", e)
	}
	for _, n := range numbers {
		if _, e := s.Put(h, key(fields[0], n), elem(fields[1], n+h)); e != api.OK {
			t.Fatalf("Put: error %d", e)
		}
	}
	return h
}

// key: the key with that number, of so many bytes. (37 is odd: all keys of a width are told apart, and do not come in their order.)
func key(width, n int) string {
	b := make([]byte, width)
	for i := range b {
		b[i] = byte(n * 37 >> (8 * (i % 7)))
	}
	return string(b)
}

func elem(width, n int) string { return key(width, n+91) }

// numbers: from one up to another.
func numbers(from, to int) []int {
	var l []int
	for n := from; n < to; n++ {
		l = append(l, n)
	}
	return l
}

// save: the image of a store that has one.
func save(t testing.TB, s *store.Store) []byte {
	t.Helper()
	b, e := image.Save(s)
	if e != api.OK {
		t.Fatalf("P19.2: Save: error %d", e)
	}
	return b
}

// load: the store of an image.
func load(t testing.TB, b []byte) *store.Store {
	t.Helper()
	s, e := image.Load(b)
	if s == nil || e != api.OK {
		t.Fatalf("P19.3: Load of an image of %d bytes: store %v, error %d", len(b), s != nil, e)
	}
	return s
}

// refused: the bytes are refused by that error, and no store is answered.
func refused(t testing.TB, what string, b []byte, want api.Errno) {
	t.Helper()
	if s, e := image.Load(b); s != nil || e != want {
		t.Errorf("%s: store %v, error %d, want no store, error %d", what, s != nil, e, want)
	}
}

// word: the eight bytes of a number.
func word(v uint64) []byte { return binary.LittleEndian.AppendUint64(nil, v) }

// summed: the bytes with the right sum in place of the last eight.
func summed(b []byte) []byte {
	n := len(b) - 8
	return append(b[:n:n], word(plainSum(b[:n]))...)
}

// with: the bytes with another word at that place, and the right sum.
func with(b []byte, at int, v uint64) []byte {
	c := append([]byte(nil), b...)
	copy(c[at:], word(v))
	return summed(c)
}

// state: all that can be asked of a store without changing it: what it keeps, its handles, its arena's limit and end, its blocks and their bytes.
func state(s *store.Store) string {
	a := s.Arena()
	var text strings.Builder
	fmt.Fprint(&text, s.Hold(), s.Handles(), s.Live(), a.Limit(), a.End(), a.Parts())
	for off, size := range a.Blocks() {
		b, e := a.Read(off, size)
		fmt.Fprintf(&text, "%d %x\n", e, b)
	}
	return text.String()
}

// hashes: overrides by which keys of one byte lie close together, or far apart.
var hashes = map[string]func(n int) uint64{
	"hashes all the same": func(int) uint64 { return 5*128 + 9 },
	"few hashes":          func(n int) uint64 { return []uint64{0, math.MaxUint64, 3*128 + 5, 1 << 63, 1 << 62}[n%5] },
	"many hashes":         nil,
}

// overs: overrides for the keys of one byte with the numbers 0 to 63.
func overs(of func(n int) uint64) []api.Over {
	var l []api.Over
	for n := 0; of != nil && n < 64; n++ {
		l = append(l, api.Over{Key: key(1, n), Hash: of(n)})
	}
	return l
}

// longOvers: as many overrides as there may be, with keys of 1 to 128 bytes, not in the order of the keys, and hashes up to the greatest.
func longOvers() []api.Over {
	var l []api.Over
	for n := range api.MaxOver {
		l = append(l, api.Over{Key: strings.Repeat(string(rune('z'-n%26)), api.MaxKey-2*n), Hash: math.MaxUint64 / uint64(1+n*n*n)})
	}
	l[len(l)-1].Key = "k"
	return l
}

// shape: a store without walks.
type shape struct {
	name  string
	build func(t testing.TB) *store.Store
}

// shapes: stores of every kind.
var shapes = []shape{
	{"the limit 0", func(t testing.TB) *store.Store { return begin(t, 0) }},
	{"the limit 4096", func(t testing.TB) *store.Store { return begin(t, 4096) }},
	{"the greatest limit", func(t testing.TB) *store.Store { return begin(t, api.MaxLimit) }},
	{"an override", func(t testing.TB) *store.Store { return begin(t, 77, api.Over{Key: "a", Hash: 5}) }},
	{"overrides", func(t testing.TB) *store.Store { return begin(t, 4096, longOvers()...) }},
	{"a bare map", bareMap},
	{"a small map", func(t testing.TB) *store.Store {
		s := begin(t, 4096, api.Over{Key: "\x00", Hash: math.MaxUint64}, api.Over{Key: "\xff\x00", Hash: 0})
		made(t, s, math.MaxUint64, []int{1, 0, 1, 1, 1024}, 1)
		return s
	}},
	{"a full small map", func(t testing.TB) *store.Store {
		s := begin(t, 1<<16)
		made(t, s, 3, []int{128, 128, 8, 8, 64}, numbers(0, 8)...)
		return s
	}},
	{"one table", func(t testing.TB) *store.Store {
		s := begin(t, 1<<16)
		made(t, s, 3, []int{4, 8, 4, 8, 16}, numbers(0, 9)...)
		return s
	}},
	{"several tables", severalTables},
	{"tables of one hash", func(t testing.TB) *store.Store {
		s := begin(t, 1<<20, overs(hashes["hashes all the same"])...)
		made(t, s, 9, []int{1, 1, 1, 1, 16}, numbers(0, 40)...)
		return s
	}},
	{"deleted cells", func(t testing.TB) *store.Store {
		s := severalTables(t)
		for n := 0; n < 120; n += 2 {
			s.Delete(1, key(2, n))
		}
		return s
	}},
	{"many maps", manyMaps},
	{"nothing that is live", func(t testing.TB) *store.Store {
		s := manyMaps(t)
		s.Release(s.Handles()...)
		return s
	}},
	{"refused puts", func(t testing.TB) *store.Store {
		s := begin(t, 1500)
		made(t, s, 1, []int{1, 1, 1, 1, 16})
		for n := range 40 {
			s.Put(1, key(1, n), "x")
		}
		s.Clone(1)
		return s
	}},
	{"walks that are released", walked},
}

func bareMap(t testing.TB) *store.Store {
	s := begin(t, 4096, api.Over{Key: "ab", Hash: 255})
	made(t, s, 7, chapter)
	return s
}

func severalTables(t testing.TB) *store.Store {
	s := begin(t, 1<<17)
	made(t, s, 5, []int{2, 3, 2, 1, 16}, numbers(0, 120)...)
	return s
}

// manyMaps: maps of several descriptors, and free blocks ahead of, between and behind what is live.
func manyMaps(t testing.TB) *store.Store {
	s := begin(t, 1<<18, api.Over{Key: "ab", Hash: 1 << 63}, api.Over{Key: "a", Hash: 1})
	made(t, s, 1, chapter, numbers(0, 9)...)
	made(t, s, 2, []int{1, 1, 1, 1, 16}, numbers(0, 30)...)
	made(t, s, 3, []int{3, 0, 1, 8, 32}, numbers(0, 5)...)
	made(t, s, 4, []int{8, 16, 8, 8, 1024}, numbers(0, 40)...)
	made(t, s, 5, []int{5, 4, 1, 4, 64})
	s.Clone(2)
	s.Clone(4)
	s.Clear(4, 99)
	s.Release(1, 5)
	s.Make(0, 4, 1, 1, 1, 1, 128)
	s.Make(0, 100, 1, 1, 1, 1, 128)
	s.Make(1<<63, 20, 2, 2, 2, 2, 256)
	s.Release(9)
	return s
}

// walked: walks have stood on blocks that were replaced.
func walked(t testing.TB) *store.Store {
	s := begin(t, 1<<18)
	h := made(t, s, 5, []int{1, 1, 1, 1, 16}, numbers(0, 7)...)
	var walks []int
	for n := 7; n < 60; n += 7 {
		w, _ := s.Open(h, uint64(n), uint64(n))
		s.Next(w)
		s.Next(w)
		walks = append(walks, w)
		for i := range 7 {
			s.Put(h, key(1, n+i), "w")
		}
	}
	s.Release(walks...)
	return s
}
