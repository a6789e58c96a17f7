package audit_test

import (
	"fmt"
	"math"
	"math/rand"
	"slices"
	"strings"
	"testing"

	"larder/api"
	"larder/arena"
	"larder/audit"
	"larder/layout"
	"larder/oracle"
)

// pool: numbers that a word may be made: bounds, and what is near the blocks.
func pool(a *arena.Arena) []int {
	l := []int{0, 1, 2, 3, 4, 5, 6, 7, 8, 9, 14, 15, 16, 17, 24, 32, 64, 128, 254, 1024, 32768, 65536, 131072, -1, -2, -16, 1 << 61, 1 << 62, 1<<62 + 1, math.MinInt, math.MinInt + 1, math.MaxInt - 7, math.MaxInt}
	for off, size := range a.Blocks() {
		l = append(l, off, off, off, off+8, off+size-8)
	}
	return l
}

// blocks: the live ones' offsets.
func blocks(a *arena.Arena) []int {
	var l []int
	for off := range a.Blocks() {
		l = append(l, off)
	}
	return l
}

// spoiler: what spoils an arena's bytes.
type spoiler struct {
	w   world // of the map that is spoilt
	r   *rand.Rand
	low []int // its blocks
}

func (s spoiler) block() (int, int) {
	off := s.low[s.r.Intn(len(s.low))]
	size, _ := s.w.a.Size(off)
	return off, size
}

// damage: some bytes of the live blocks are laid anew: the pokes.
func (s spoiler) damage() []poke {
	off, size := s.block()
	at := off + 8*s.r.Intn(size/8)
	words := pool(s.w.a)
	switch s.r.Intn(12) {
	case 0:
		return []poke{one(off+s.r.Intn(size), s.r.Intn(256))}
	case 1: // a block's first words
		return []poke{word(off+8*s.r.Intn(min(8, size/8)), words[s.r.Intn(len(words))])}
	case 2: // one word is another one
		from, n := s.block()
		was, _ := s.w.a.Read(from+8*s.r.Intn(n/8), 8)
		return []poke{{at, was}}
	case 3: // a word that is one off
		return []poke{word(at, s.w.load(at)+2*s.r.Intn(2)-1)}
	case 4: // a block is another one
		from, n := s.block()
		was, _ := s.w.a.Read(from, min(size, n))
		return []poke{{off, was}}
	case 5: // any bytes
		b := make([]byte, size)
		s.r.Read(b)
		return []poke{{off, string(b)}}
	case 6:
		return []poke{{off, strings.Repeat(string([]byte{[]byte{0, 255, 128, 254}[s.r.Intn(4)]}), size)}}
	case 7: // a control byte
		return []poke{one(at+s.r.Intn(8), []int{128, 254, 0, 1, 127, 129, 255}[s.r.Intn(7)])}
	case 8, 9: // a cell that is right by itself, at a place that may be a slot
		return s.cell(off, size)
	case 10: // a slot that is vacant
		if size < s.w.l.Group {
			return nil
		}
		return s.w.vacant(s.group(off, size), s.r.Intn(8), []int{128, 254}[s.r.Intn(2)])
	}
	return []poke{word(at, words[s.r.Intn(len(words))])}
}

// group: where a group may lie in the block: a small block's, or one of a table's.
func (s spoiler) group(off, size int) int {
	if size >= 32+s.w.l.Group && s.r.Intn(3) == 0 {
		return off + 32
	}
	return off + s.r.Intn(size/s.w.l.Group)*s.w.l.Group
}

func (s spoiler) cell(off, size int) []poke {
	if size < s.w.l.Group {
		return nil
	}
	key := make([]byte, s.w.l.Key)
	key[0] = byte(4*s.r.Intn(64) + 1)
	return s.w.cell(s.group(off, size), s.r.Intn(8), string(key), s.r.Intn(100))
}

// anyRoot: a root, mostly one of these.
func anyRoot(r *rand.Rand, a *arena.Arena, roots []api.Root) api.Root {
	x := api.Root{}
	if len(roots) > 0 {
		x = roots[r.Intn(len(roots))]
	}
	words := pool(a)
	switch r.Intn(12) {
	case 0:
		x.Off = words[r.Intn(len(words))]
	case 1:
		x.Off += r.Intn(128) - 64
	case 2:
		x.Layout = api.Layout{Key: r.Intn(200) - 10, Elem: r.Intn(200) - 10, KeyAlign: r.Intn(9), ElemAlign: r.Intn(9), Cap: 16, Slot: words[r.Intn(len(words))], Group: words[r.Intn(len(words))]}
	case 3:
		x.Layout, _ = layout.Parse(scripted[r.Intn(len(scripted))]...)
	case 4:
		x = api.Root{Off: r.Intn(1 << 20), Layout: api.Layout{}}
	}
	return x
}

// TestAnyBytes: P15.4, P15.1 to P15.3: maps as scripts leave them, then spoilt: every call ends, answers what the plain rules say, and changes no byte.
func TestAnyBytes(t *testing.T) {
	for run := range 24 {
		t.Run(fmt.Sprint("run ", run), func(t *testing.T) {
			t.Parallel()
			g := newGang(t, int64(1000+run), []int{6000, 30000, 100000}[run%3], run%4)
			met := map[int]int{}
			for range 12 {
				for range 30 + g.r.Intn(150) {
					g.step()
				}
				if len(g.all) > 0 {
					spoil(g, met)
				}
			}
			if len(met) < 8 {
				t.Errorf("P15.4: only these codes were met: %v", met)
			}
		})
	}
}

// spoil: the gang's arena is spoilt in many ways, one after the other, and each time made right again.
func spoil(g *gang, met map[int]int) {
	g.t.Helper()
	for range 40 {
		x := g.all[g.r.Intn(len(g.all))]
		st, _ := x.m.Stat()
		w := world{g.t, g.a, seeded(g.t, g.o, st.Seed), x.m.Layout()}
		roots := g.roots()
		s := spoiler{w, g.r, blocks(g.a)}
		var back []poke
		for range 1 + g.r.Intn(3) {
			back = append(w.lay(s.damage()...), back...)
		}
		w.o = g.o
		before := picture(g.a)
		if g.r.Intn(4) == 0 {
			roots[g.r.Intn(len(roots))] = anyRoot(g.r, g.a, roots)
		}
		met[w.check(roots...).Code]++
		if !w.agrees("bytes that are spoilt", roots...) {
			g.t.FailNow()
		}
		if picture(g.a) != before {
			g.t.Fatal("P15.4: a byte has changed")
		}
		w.lay(back...)
	}
	finds(g.t, "P15.5: made right again", audit.Check(g.a, g.o, g.roots()...), fine)
}

// seeded: an oracle that gives, under the seed 7, the hashes that o gives under that seed, for the keys that a spoilt cell may have.
func seeded(t *testing.T, o *oracle.Oracle, seed uint64) *oracle.Oracle {
	t.Helper()
	var over []api.Over
	for i := range 32 {
		for width := 1; width <= 2; width++ {
			k := wide(string([]byte{byte(4*i + 1)}), width)
			over = append(over, api.Over{Key: k, Hash: o.Hash(seed, k)})
		}
	}
	x, e := oracle.New(over...)
	answers(t, "oracle.New", e, api.OK)
	return x
}

// TestAnyRoots: P15.4: roots at any offset with any layout, over an arena of any blocks.
func TestAnyRoots(t *testing.T) {
	r := rand.New(rand.NewSource(5))
	for range 300 {
		a, _ := arena.New(api.MaxLimit)
		o, _ := oracle.New()
		for range r.Intn(12) {
			off, _ := a.Alloc([]int{16, 32, 48, 64, 64, 64, 168, 192, 384, 512}[r.Intn(10)])
			if r.Intn(4) == 0 {
				a.Free(off)
			}
		}
		for off, size := range a.Blocks() {
			words := pool(a)
			for at := off; at < off+size; at += 8 {
				if r.Intn(3) == 0 {
					a.Store(at, 8, uint64(words[r.Intn(len(words))]))
				}
			}
			if r.Intn(2) == 0 { // what may pass for a header
				a.Write(off, word(0, r.Intn(3)).bytes)
			}
		}
		w := world{t, a, o, api.Layout{}}
		var roots []api.Root
		for range r.Intn(5) {
			x := anyRoot(r, a, roots)
			if r.Intn(2) == 0 {
				x.Layout, _ = layout.Parse(scripted[r.Intn(len(scripted))]...)
			}
			roots = append(roots, x)
		}
		before := picture(a)
		w.agrees("any blocks", roots...)
		if picture(a) != before {
			t.Fatal("P15.4: a byte has changed")
		}
	}
}

// TestRings: P15.4: rings of retired ones of every length, and what leads into them, end with 7.
func TestRings(t *testing.T) {
	for n := 1; n <= 40; n++ {
		w := begin(t, chapter)
		h := w.bare()
		var offs []int
		for i := range n {
			s := w.aSmall(0)
			retire(t, 0, s)
			if i > 0 {
				w.lay(word(offs[i-1]+next, s.Off()))
			}
			offs = append(offs, s.Off())
		}
		w.lay(word(h+retired, offs[0]))
		w.asks(fmt.Sprintf("P15.4: %d retired ones", n), h, fine)
		last := offs[n-1] + next
		for _, back := range offs {
			w.asks(fmt.Sprintf("P15.4: a ring back to %d of %d", slices.Index(offs, back), n), h, told(7, last), word(last, back))
		}
	}
}

// TestGreatest: P15.4: the greatest table that can be, without an empty slot, all of whose keys pass nearly all groups: the call ends.
func TestGreatest(t *testing.T) {
	if testing.Short() {
		t.Skip("32768 cells")
	}
	w := beginWith(t, []int{2, 0, 1, 1, 16})
	h := w.bare()
	tb := w.aTable(32768, 0, 0)
	w.hang(h, 32768, 32768, tb)
	g := groupsOf(t, tb)
	for i := range 32768 {
		w.lay(w.cell(g+i/8*w.l.Group, i%8, string([]byte{byte(i), byte(i >> 8)}), i)...)
	}
	w.lay(word(tb.Off()+held, 32768), word(tb.Off()+room, -4096))
	w.asks("P15.4: 32768 full slots", h, fine)
	at := g + 4095*w.l.Group
	w.asks("P15.4: and the last one's birth", h, told(16, at+layout.BirthAt(w.l, 7)), word(at+layout.BirthAt(w.l, 7), 0))
}

// TestFull: P15.4: an arena full of maps, all of them named.
func TestFull(t *testing.T) {
	w := begin(t, chapter)
	var roots []api.Root
	for range api.MaxLimit / 64 {
		roots = append(roots, w.root(w.bare()))
	}
	finds(t, "P15.4: 32768 maps", w.check(roots...), fine)
	finds(t, "P15.4: and the first again", w.check(append(roots, roots[0])...), told(7, roots[0].Off))
	finds(t, "P15.4: all but the last", w.check(roots[:len(roots)-1]...), told(26, roots[len(roots)-1].Off))
}
