package walk_test

import (
	"fmt"
	"maps"
	"slices"
	"strings"
	"testing"

	"larder/api"
	"larder/arena"
	"larder/dir"
	"larder/oracle"
	"larder/small"
	"larder/swiss"
)

// world: an arena with maps among marked blocks, walks over them, and what all of it must hold.
type world struct {
	t       *testing.T
	a       *arena.Arena
	o       *oracle.Oracle
	g       *ground
	strange map[int]string // the blocks that are no map's
	maps    []*pair
	walks   []*stroll // those that are not done
	quiet   bool      // the arena is not looked at behind each call
	brief   bool      // it is, but the calls that read are not asked
}

// pair: a map and the plain one that it must be like.
type pair struct {
	m swiss.Map
	p *pmap
}

// begin: a world without maps, in which so many bytes may be live beside the marked ones. Of the classes that maps take there are live blocks and free ones.
func begin(t *testing.T, limit int, l api.Layout, o *oracle.Oracle) *world {
	t.Helper()
	kept := []int{16, 64, 32 + l.Group, 64}
	freed := []int{64, 16, 32 + l.Group, 64, 2 * l.Group, 32}
	sum, most := 0, 0
	for _, n := range kept {
		sum += arena.Class(n)
	}
	for _, n := range freed {
		most += arena.Class(n)
	}
	parts, bytes := []api.Part{}, ""
	end := api.First
	for i := range max(len(kept), len(freed)) {
		if i < len(kept) {
			size := arena.Class(kept[i])
			parts = append(parts, api.Part{Off: end, Size: size, Live: true})
			bytes += marks(end, size)
			end += size
		}
		// Where the limit is less than a free block, no arena can have had it.
		if i < len(freed) && limit >= most {
			size := arena.Class(freed[i])
			parts = append(parts, api.Part{Off: end, Size: size})
			end += size
		}
	}
	a, e := arena.Restore(sum+limit, parts, bytes)
	answers(t, "arena.Restore", e, api.OK)
	now := look(t, a)
	return &world{t: t, a: a, o: o, strange: now.bytes, g: &ground{
		heap:  heap{limit: now.limit, live: now.live, end: now.end, parts: now.parts},
		steps: steps{},
	}}
}

// make: a map is made, and the plain one; nil: it was refused.
func (w *world) make(l api.Layout, seed uint64, hint int) *pair {
	w.t.Helper()
	var p *pmap
	want := api.ErrHint
	if hint >= 0 && hint <= 4096 {
		p, want = w.g.build(l, w.o, seed, hint)
	}
	m, e := swiss.Make(w.a, l, w.o, seed, hint)
	what := fmt.Sprintf("Make with hint %d, cap %d", hint, l.Cap)
	answers(w.t, what, e, want)
	return w.born(what, m, p)
}

// born: a map that was made, cloned or refused.
func (w *world) born(what string, m swiss.Map, p *pmap) *pair {
	w.t.Helper()
	if p == nil {
		if m != (swiss.Map{}) {
			w.t.Fatalf("%s: beside an error the map is not the zero one", what)
		}
		w.holds(what)
		return nil
	}
	if m != swiss.At(w.a, p.l, w.o, p.off) {
		w.t.Fatalf("%s: it lies at %d, want %d", what, m.Off(), p.off)
	}
	x := &pair{m, p}
	w.maps = append(w.maps, x)
	w.holds(what, x)
	return x
}

// put: the key of that number is put, with the elem of another: the error.
func (w *world) put(x *pair, key, elem int) api.Errno {
	w.t.Helper()
	return w.putText(x, text(x.p.l.Key, key), text(x.p.l.Elem, elem))
}

func (w *world) putText(x *pair, key, elem string) api.Errno {
	w.t.Helper()
	added, e := w.g.put(x.p, key, elem, x.p.births)
	if added {
		x.p.births++
	}
	if e == api.OK {
		x.p.pairs[key] = elem
	}
	what := fmt.Sprintf("Put(%.12q, %.12q)", key, elem)
	if now, f := x.m.Put(key, elem); now != added || f != e {
		w.t.Fatalf("%s = %v, error %d, want %v, error %d", what, now, f, added, e)
	}
	w.holds(what, x)
	return e
}

// delete: the key of that number is deleted.
func (w *world) delete(x *pair, key int) bool {
	w.t.Helper()
	k := text(x.p.l.Key, key)
	want := x.p.cell(k) != nil
	if want {
		s, _ := x.p.at(k).find(x.p.of(k), k)
		x.p.at(k).remove(s)
		delete(x.p.pairs, k)
		w.dies(x, k)
	}
	what := fmt.Sprintf("Delete(%.12q)", k)
	if was, e := x.m.Delete(k); was != want || e != api.OK {
		w.t.Fatalf("%s = %v, error %d, want %v", what, was, e, want)
	}
	w.holds(what, x)
	return want
}

func (w *world) clear(x *pair, seed uint64) {
	w.t.Helper()
	w.g.drop(x.p.below()...)
	for k := range x.p.pairs {
		w.dies(x, k)
	}
	x.p.seed, x.p.epoch, x.p.block, x.p.entries, x.p.retired, x.p.pairs = seed, x.p.epoch+1, nil, nil, nil, map[string]string{}
	answers(w.t, "Clear", x.m.Clear(seed), api.OK)
	w.holds("Clear", x)
}

func (w *world) release(x *pair) {
	w.t.Helper()
	w.g.drop(append(x.p.below(), x.p.off)...)
	answers(w.t, "Release", x.m.Release(), api.OK)
	w.maps = slices.DeleteFunc(w.maps, func(y *pair) bool { return y == x })
	w.walks = slices.DeleteFunc(w.walks, func(s *stroll) bool { return s.x == x })
	w.holds("Release")
}

// clone: the other map; nil: it was refused.
func (w *world) clone(x *pair) *pair {
	w.t.Helper()
	cells := x.p.cells()
	p, want := w.g.build(x.p.l, w.o, x.p.seed, len(cells))
	for _, c := range cells {
		if want != api.OK {
			break
		}
		_, want = w.g.put(p, c.Key, c.Elem, c.Birth)
	}
	switch {
	case want == api.OK:
		p.births, p.pairs = x.p.births, maps.Clone(x.p.pairs)
	case p != nil:
		w.g.drop(append(p.below(), p.off)...)
		p = nil
	}
	m, e := x.m.Clone()
	answers(w.t, "Clone", e, want)
	c := w.born("Clone", m, p)
	w.tells("the map that was cloned", x)
	return c
}

// picture: the arena as it must be.
func (w *world) picture() picture {
	p := picture{limit: w.g.limit, live: w.g.live, end: w.g.end, parts: w.g.parts, bytes: maps.Clone(w.strange)}
	for _, x := range w.maps {
		for off, s := range x.p.bytes() {
			p.bytes[off] = s + strings.Repeat("\x00", w.g.size(off)-len(s))
		}
	}
	return p
}

// holds: these maps tell what they must, and all bytes of the arena are as they must be.
func (w *world) holds(what string, told ...*pair) {
	w.t.Helper()
	if w.quiet {
		return
	}
	for _, x := range told {
		if !w.brief {
			w.tells(what, x)
		}
	}
	like(w.t, what, w.a, w.picture())
}

// looks: the same, in a quiet world too.
func (w *world) looks(what string, told ...*pair) {
	w.t.Helper()
	was := w.quiet
	w.quiet = false
	w.holds(what, told...)
	w.quiet = was
}

// tells: the calls that read answer what the plain map says.
func (w *world) tells(what string, x *pair) {
	w.t.Helper()
	want := x.p.stat()
	if st, e := x.m.Stat(); st != want || e != api.OK {
		w.t.Fatalf("%s: Stat = %+v, error %d, want %+v", what, st, e, want)
	}
	if n, e := x.m.Len(); n != want.Used || n != len(x.p.pairs) || e != api.OK {
		w.t.Fatalf("%s: Len = %d, error %d, want %d, %d", what, n, e, want.Used, len(x.p.pairs))
	}
	w.tellsParts(what, x)
	cells := x.p.cells()
	for _, c := range cells {
		w.finds(what, x, c.Key)
	}
	w.finds(what, x, text(x.p.l.Key, 200))
	var got []string
	for k, v := range x.m.All() {
		got = append(got, k, v)
	}
	var all []string
	for _, c := range cells {
		all = append(all, c.Key, c.Elem)
	}
	if !slices.Equal(got, all) {
		w.t.Fatalf("%s: All gives %.200q, want %.200q", what, got, all)
	}
}

// tellsParts: what the map shows of its inside.
func (w *world) tellsParts(what string, x *pair) {
	w.t.Helper()
	slots := 0
	for _, p := range x.p.current() {
		slots += len(p.cells)
	}
	if n, e := x.m.Slots(); n != slots || e != api.OK {
		w.t.Fatalf("%s: Slots = %d, error %d, want %d", what, n, e, slots)
	}
	wantSmall, wantDir := small.Small{}, dir.Dir{}
	if x.p.block != nil {
		wantSmall = small.At(w.a, x.p.l, x.p.block.off)
	}
	if x.p.entries != nil {
		wantDir = dir.At(w.a, x.p.dirOff, x.p.depth())
	}
	if s, yes, e := x.m.Small(); s != wantSmall || yes != (x.p.block != nil) || e != api.OK {
		w.t.Fatalf("%s: Small = %v, error %d, at %d", what, yes, e, s.Off())
	}
	if d, yes, e := x.m.Dir(); d != wantDir || yes != (x.p.entries != nil) || e != api.OK {
		w.t.Fatalf("%s: Dir = %v, error %d, at %d, depth %d", what, yes, e, d.Off(), d.Depth())
	}
	var retired []int
	for _, p := range x.p.retired {
		retired = append(retired, p.off)
	}
	if l, e := x.m.Retired(); !slices.Equal(l, retired) || e != api.OK {
		w.t.Fatalf("%s: Retired = %v, error %d, want %v", what, l, e, retired)
	}
}

// finds: Cell, Get and Probes answer what the plain map, and the plain pairs, say.
func (w *world) finds(what string, x *pair, key string) {
	w.t.Helper()
	var cell api.Cell
	if c := x.p.cell(key); c != nil {
		cell = *c
	}
	probes := 0
	if p := x.p.at(key); p != nil {
		_, probes = p.find(x.p.of(key), key)
	}
	if c, e := x.m.Cell(key); c != cell || e != api.OK {
		w.t.Fatalf("%s: Cell(%.12q) = %#v, error %d, want %#v", what, key, c, e, cell)
	}
	elem, there := x.p.pairs[key]
	if s, yes, e := x.m.Get(key); s != elem || yes != there || e != api.OK {
		w.t.Fatalf("%s: Get(%.12q) = %.12q, %v, error %d, want %.12q, %v", what, key, s, yes, e, elem, there)
	}
	if n, e := x.m.Probes(key); n != probes || e != api.OK {
		w.t.Fatalf("%s: Probes(%.12q) = %d, error %d, want %d", what, key, n, e, probes)
	}
}

// fill: the keys from first on, so many; those that are refused are left out. The arena is looked at behind the last of them.
func (w *world) fill(x *pair, first, n int) {
	w.t.Helper()
	was := w.quiet
	w.quiet = true
	for i := range n {
		w.put(x, first+i, 100+i)
	}
	w.quiet = was
	w.holds("so many puts", x)
}

// happened: each of these steps was done that often, or more.
func happened(t *testing.T, s steps, times int, names ...string) {
	t.Helper()
	for _, name := range names {
		if s[name] < times {
			t.Errorf("the run is too tame: %s: %d times of %d; all: %v", name, s[name], times, s)
		}
	}
}
