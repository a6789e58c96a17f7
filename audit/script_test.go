package audit_test

import (
	"cmp"
	"fmt"
	"maps"
	"math/rand"
	"slices"
	"testing"

	"larder/api"
	"larder/arena"
	"larder/audit"
	"larder/layout"
	"larder/oracle"
	"larder/store"
	"larder/swiss"
)

// member: a map with what it must hold, and where walks stand.
type member struct {
	m    swiss.Map
	has  map[string]string
	pins []int
}

// gang: several maps of one arena, and what is drawn for them.
type gang struct {
	t     *testing.T
	r     *rand.Rand
	a     *arena.Arena
	o     *oracle.Oracle
	all   []*member
	rings int // how often something was retired
}

// scripted: descriptors with keys of one byte, for which there are overrides, and of two.
var scripted = [][]int{{1, 1, 1, 1, 16}, {1, 0, 1, 1, 32}, {1, 9, 1, 1, 16}, {2, 3, 2, 1, 16}, {1, 128, 1, 8, 16}}

// hashes: some sets of overrides: none; all hashes equal; few homes and tags; the top bits alone.
func hashes(which int) []api.Over {
	var over []api.Over
	for i := range 64 {
		k := string([]byte{byte(4*i + 1)})
		switch which {
		case 1:
			over = append(over, api.Over{Key: k, Hash: 0})
		case 2:
			over = append(over, api.Over{Key: k, Hash: uint64(i%3)<<7 | uint64(i%2) | uint64(i%5)<<60})
		case 3:
			over = append(over, api.Over{Key: k, Hash: uint64(i) << 58})
		}
	}
	return over
}

func newGang(t *testing.T, seed int64, limit, which int) *gang {
	t.Helper()
	o, e := oracle.New(hashes(which)...)
	answers(t, "oracle.New", e, api.OK)
	a, e := arena.New(limit)
	answers(t, "arena.New", e, api.OK)
	return &gang{t: t, r: rand.New(rand.NewSource(seed)), a: a, o: o}
}

// key: one of some; of one byte mostly one that has an override.
func (g *gang) key(m swiss.Map) string {
	b := make([]byte, m.Layout().Key)
	b[0] = byte(4*g.r.Intn(64) + 1)
	if g.r.Intn(3) == 0 {
		b[0] = byte(g.r.Intn(256))
	}
	return string(b)
}

func (g *gang) elem(m swiss.Map) string {
	b := make([]byte, m.Layout().Elem)
	for i := range b {
		b[i] = byte(g.r.Intn(4) * 85)
	}
	return string(b)
}

func (g *gang) make() {
	l, e := layout.Parse(scripted[g.r.Intn(len(scripted))]...)
	answers(g.t, "Parse", e, api.OK)
	m, e := swiss.Make(g.a, l, g.o, g.r.Uint64(), []int{0, 0, 0, 8, 9, 15, 40, 100}[g.r.Intn(8)])
	g.add(m, e, map[string]string{})
}

func (g *gang) add(m swiss.Map, e api.Errno, has map[string]string) {
	if e == api.OK {
		g.all = append(g.all, &member{m: m, has: has})
	} else {
		answers(g.t, "a map that is refused", e, api.ErrMemory)
	}
}

// put: some keys, one after the other: growth needs many.
func (g *gang) put(x *member) {
	k, v := g.key(x.m), g.elem(x.m)
	before := len(g.retired(x))
	if _, e := x.m.Put(k, v); e == api.OK {
		x.has[k] = v
	} else {
		answers(g.t, "a put that is refused", e, api.ErrMemory)
	}
	if len(g.retired(x)) > before {
		g.rings++
	}
}

func (g *gang) retired(x *member) []int {
	l, e := x.m.Retired()
	answers(g.t, "Retired", e, api.OK)
	return l
}

// places: where a walk may stand.
func (g *gang) places(x *member) []int {
	offs := g.retired(x)
	if s, is, _ := x.m.Small(); is {
		offs = append(offs, s.Off())
	}
	if d, is, _ := x.m.Dir(); is {
		for _, off := range d.Tables() {
			offs = append(offs, off)
		}
	}
	return offs
}

func (g *gang) pin(x *member) {
	offs := g.places(x)
	if len(offs) == 0 {
		return
	}
	off := offs[g.r.Intn(len(offs))]
	answers(g.t, "Pin", x.m.Pin(off), api.OK)
	x.pins = append(x.pins, off)
}

func (g *gang) unpin(x *member) {
	if len(x.pins) == 0 {
		return
	}
	i := g.r.Intn(len(x.pins))
	answers(g.t, "Unpin", x.m.Unpin(x.pins[i]), api.OK)
	x.pins = slices.Delete(x.pins, i, i+1)
}

// step: one of chapter 12's calls.
func (g *gang) step() string {
	if len(g.all) == 0 || len(g.all) < 5 && g.r.Intn(60) == 0 {
		g.make()
		return "Make"
	}
	i := g.r.Intn(len(g.all))
	x := g.all[i]
	switch n := g.r.Intn(400); {
	case n < 1:
		answers(g.t, "Release", x.m.Release(), api.OK)
		g.all = slices.Delete(g.all, i, i+1)
		return "Release"
	case n < 3:
		answers(g.t, "Clear", x.m.Clear(g.r.Uint64()), api.OK)
		x.has, x.pins = map[string]string{}, nil
		return "Clear"
	case n < 7 && len(g.all) < 6:
		m, e := x.m.Clone()
		g.add(m, e, maps.Clone(x.has))
		return "Clone"
	case n < 25:
		g.pin(x)
		return "Pin"
	case n < 40:
		g.unpin(x)
		return "Unpin"
	case n < 140:
		k := g.key(x.m)
		_, e := x.m.Delete(k)
		answers(g.t, "Delete", e, api.OK)
		delete(x.has, k)
		return "Delete"
	}
	g.put(x)
	return "Put"
}

// roots: of the maps that are alive, in any order.
func (g *gang) roots() []api.Root {
	var roots []api.Root
	for _, x := range g.all {
		roots = append(roots, api.Root{Off: x.m.Off(), Layout: x.m.Layout()})
	}
	g.r.Shuffle(len(roots), func(i, j int) { roots[i], roots[j] = roots[j], roots[i] })
	return roots
}

// sorted: the pairs of a finite map.
func sorted(has map[string]string) []api.Pair {
	var l []api.Pair
	for k, v := range has {
		l = append(l, api.Pair{Key: k, Elem: v})
	}
	slices.SortFunc(l, func(x, y api.Pair) int { return cmp.Compare(x.Key, y.Key) })
	return l
}

// TestNothingFound: P15.5, U7, P15.3: behind every call of long scripts, under limits that refuse some of them, with hashes of every kind.
func TestNothingFound(t *testing.T) {
	for which := range 4 {
		for i, limit := range []int{4000, 20000, api.MaxLimit} {
			t.Run(fmt.Sprintf("hashes %d, limit %d", which, limit), func(t *testing.T) {
				t.Parallel()
				g := newGang(t, int64(10*which+i), limit, which)
				for n := range 4000 {
					what := g.step()
					if f := audit.Check(g.a, g.o, g.roots()...); f != fine {
						t.Fatalf("P15.5: step %d, behind %s: Check %v", n, what, f)
					}
					for i, x := range g.all {
						r := api.Root{Off: x.m.Off(), Layout: x.m.Layout()}
						if n%len(g.all) != i {
							continue
						}
						if f := audit.Map(g.a, g.o, r); f != fine {
							t.Fatalf("P15.5: step %d, behind %s: Map %v", n, what, f)
						}
						if got, want := audit.Pairs(g.a, g.o, r), sorted(x.has); !slices.Equal(got, want) {
							t.Fatalf("P15.3: step %d, behind %s: %q, want %q", n, what, got, want)
						}
					}
				}
				if g.rings < 3 {
					t.Errorf("only %d blocks have been retired", g.rings)
				}
			})
		}
	}
}

// TestStoreScripts: U7, P15.5: behind every command of a store, with walks, clears, clones and releases, refused commands among them; and when all handles are released nothing is left.
func TestStoreScripts(t *testing.T) {
	for which := range 4 {
		for i, limit := range []int{6000, api.MaxLimit} {
			t.Run(fmt.Sprintf("hashes %d, limit %d", which, limit), func(t *testing.T) {
				t.Parallel()
				s, e := store.New(limit, hashes(which)...)
				answers(t, "store.New", e, api.OK)
				r := rand.New(rand.NewSource(int64(100 + 10*which + i)))
				for n := range 4000 {
					command(s, r)
					roots := s.Roots()
					r.Shuffle(len(roots), func(i, j int) { roots[i], roots[j] = roots[j], roots[i] })
					if f := audit.Check(s.Arena(), s.Oracle(), roots...); f != fine {
						t.Fatalf("U7: behind command %d: %v", n, f)
					}
				}
				for len(s.Handles()) > 0 { // a map takes its walks along
					answers(t, "Release", s.Release(s.Handles()[0]), api.OK)
					finds(t, "U7: behind a release", audit.Check(s.Arena(), s.Oracle(), s.Roots()...), fine)
				}
				finds(t, "U7: behind the last release, without roots", audit.Check(s.Arena(), s.Oracle()), fine)
			})
		}
	}
}

// command: one that is drawn, with a handle that may be any.
func command(s *store.Store, r *rand.Rand) {
	h := 0
	if live := s.Handles(); len(live) > 0 {
		h = live[r.Intn(len(live))]
	}
	k := string([]byte{byte(4*r.Intn(64) + 1)})
	switch n := r.Intn(100); {
	case n < 2 && len(s.Handles()) < 12 || h == 0:
		s.Make(r.Uint64(), []int{0, 9, 30, 5000}[r.Intn(4)], []int{1, r.Intn(3), 1, 1, 16}...)
	case n < 3:
		s.Clear(h, r.Uint64())
	case n < 5 && len(s.Handles()) < 12:
		s.Clone(h)
	case n < 12 && len(s.Handles()) < 12:
		s.Open(h, r.Uint64(), r.Uint64())
	case n < 14:
		s.Release(h)
	case n < 25:
		s.Delete(h, k)
	case n < 40:
		s.Next(h)
	default:
		s.Put(h, k, string(make([]byte, r.Intn(3))))
	}
}
