package swiss_test

import (
	"fmt"
	"math"
	"testing"

	"larder/api"
	"larder/dir"
	"larder/small"
	"larder/swiss"
	"larder/table"
)

// args: what a call may be given.
type args struct {
	key, elem string
	seed      uint64
	off       int
}

// call: a call that a dead map refuses, and its results beside the error, each with what it is worth when there is none.
type call struct {
	name string
	do   func(m swiss.Map, x args) (got, zero any, e api.Errno)
}

// two: two results beside an error.
type two struct{ one, other any }

var calls = []call{
	{"Stat", func(m swiss.Map, x args) (any, any, api.Errno) {
		v, e := m.Stat()
		return v, api.MapStat{}, e
	}},
	{"Cell", func(m swiss.Map, x args) (any, any, api.Errno) {
		v, e := m.Cell(x.key)
		return v, api.Cell{}, e
	}},
	{"Get", func(m swiss.Map, x args) (any, any, api.Errno) {
		v, yes, e := m.Get(x.key)
		return two{v, yes}, two{"", false}, e
	}},
	{"Put", func(m swiss.Map, x args) (any, any, api.Errno) {
		v, e := m.Put(x.key, x.elem)
		return v, false, e
	}},
	{"Delete", func(m swiss.Map, x args) (any, any, api.Errno) {
		v, e := m.Delete(x.key)
		return v, false, e
	}},
	{"Len", func(m swiss.Map, x args) (any, any, api.Errno) {
		v, e := m.Len()
		return v, 0, e
	}},
	{"Clear", func(m swiss.Map, x args) (any, any, api.Errno) { return nil, nil, m.Clear(x.seed) }},
	{"Clone", func(m swiss.Map, x args) (any, any, api.Errno) {
		v, e := m.Clone()
		return v, swiss.Map{}, e
	}},
	{"Release", func(m swiss.Map, x args) (any, any, api.Errno) { return nil, nil, m.Release() }},
	{"Probes", func(m swiss.Map, x args) (any, any, api.Errno) {
		v, e := m.Probes(x.key)
		return v, 0, e
	}},
	{"Slots", func(m swiss.Map, x args) (any, any, api.Errno) {
		v, e := m.Slots()
		return v, 0, e
	}},
	{"Small", func(m swiss.Map, x args) (any, any, api.Errno) {
		v, yes, e := m.Small()
		return two{v, yes}, two{small.Small{}, false}, e
	}},
	{"Dir", func(m swiss.Map, x args) (any, any, api.Errno) {
		v, yes, e := m.Dir()
		return two{v, yes}, two{dir.Dir{}, false}, e
	}},
	{"Retired", func(m swiss.Map, x args) (any, any, api.Errno) {
		v, e := m.Retired()
		return len(v), 0, e
	}},
	{"Pin", func(m swiss.Map, x args) (any, any, api.Errno) { return nil, nil, m.Pin(x.off) }},
	{"Unpin", func(m swiss.Map, x args) (any, any, api.Errno) { return nil, nil, m.Unpin(x.off) }},
}

func named(name string) call {
	for _, c := range calls {
		if c.name == name {
			return c
		}
	}
	panic(name)
}

// refuses: the call answers this error, beside it nothing, and the arena stays as it is.
func (w *world) refuses(x *pair, name string, y args, want api.Errno) {
	w.t.Helper()
	w.refusesOf(x.m, named(name), y, want)
}

func (w *world) refusesOf(m swiss.Map, c call, y args, want api.Errno) {
	w.t.Helper()
	before := look(w.t, w.a)
	what := fmt.Sprintf("%s of %.12q, %.12q, offset %d", c.name, y.key, y.elem, y.off)
	got, zero, e := c.do(m, y)
	if e != want || got != zero {
		w.t.Fatalf("%s: %#v, error %d, want %#v, error %d", what, got, e, zero, want)
	}
	like(w.t, what, w.a, before)
}

// isDead: every call is ErrDead, with right arguments and with wrong ones; All gives nothing.
func (w *world) isDead(m swiss.Map, l api.Layout) {
	w.t.Helper()
	key, elem := text(l.Key, 1), text(l.Elem, 1)
	for _, y := range []args{{}, {key: key, elem: elem, off: 80}, {key: key + "k", elem: elem + "e", off: -1, seed: math.MaxUint64}, {key: key, elem: elem + "e", off: math.MinInt}, {key: key, elem: elem, off: m.Off()}} {
		for _, c := range calls {
			w.refusesOf(m, c, y, api.ErrDead)
		}
	}
	all := m.All()
	if all == nil {
		w.t.Fatal("P12.14: All of a dead map is nil")
	}
	for k := range all {
		w.t.Fatalf("All of a dead map gives %.12q", k)
	}
}

func TestADeadMapRefusesAll(t *testing.T) {
	staged(t, func(w *world, x *pair, name string) {
		alive := x.m.All()
		off := x.p.off
		w.release(x)
		for _, m := range []swiss.Map{x.m, swiss.At(w.a, x.p.l, w.o, off)} {
			w.isDead(m, x.p.l)
			if m.Off() != off || m.Arena() != w.a || m.Layout() != x.p.l {
				t.Fatalf("%s: a dead map has another place", name)
			}
		}
		for k := range alive {
			t.Fatalf("All, answered by a live map, gives %.12q behind its release", k)
		}
		w.tells("another map beside a dead one", w.maps[0])
	})
}

// TestWhereAnotherBlockStands: a dead map whose header's block is a table's header, or a directory, by now, is dead still.
func TestWhereAnotherBlockStands(t *testing.T) {
	l := lay(t, descriptors[0])
	w := begin(t, 1<<16, l, ask(t))
	x := w.make(l, 1, 0)
	w.put(x, 1, 1)
	w.release(x)
	tb, e := table.New(w.a, l, 16, 0)
	answers(t, "table.New", e, api.OK)
	if tb.Off() != x.p.off {
		t.Fatalf("W4: the table lies at %d, want %d", tb.Off(), x.p.off)
	}
	tb.Put(5, "a", "x", 1)
	w.isDead(x.m, l)
	answers(t, "Free", tb.Free(), api.OK)
	d, e := dir.New(w.a, 80, 80, 160, 160, 240, 240, 240, 240)
	answers(t, "dir.New", e, api.OK)
	if d.Off() != x.p.off {
		t.Fatalf("W4: the directory lies at %d, want %d", d.Off(), x.p.off)
	}
	w.isDead(x.m, l)
}

// TestNoMapEverWasThere: offsets of other blocks, inside of blocks, of none.
func TestNoMapEverWasThere(t *testing.T) {
	for _, keys := range []int{0, 1, 3, 9, 11, 20} {
		l := lay(t, descriptors[0])
		w := begin(t, 1<<16, l, ask(t))
		x := w.make(l, 1, 0)
		w.fill(x, 1, keys)
		offs := append([]int{0, 1, 15, w.a.End(), w.a.End() - 64, x.p.off + 1, x.p.off + 8, x.p.off + 63}, far...)
		for off := range w.strange {
			offs = append(offs, off)
		}
		for _, off := range append(offs, x.p.below()...) {
			w.isDead(swiss.At(w.a, l, w.o, off), l)
		}
		w.holds("beside offsets without a map", x)
	}
}

// TestTheMapBesideAnError: nothing lives there.
func TestTheMapBesideAnError(t *testing.T) {
	l := lay(t, descriptors[0])
	w := begin(t, 63, l, ask(t))
	m, e := swiss.Make(w.a, l, w.o, 1, 0)
	answers(t, "P12.2: Make", e, api.ErrMemory)
	w.isDead(m, l)
	if m.Off() != 0 || m.Arena() != nil || m.Layout() != (api.Layout{}) {
		t.Errorf("P12.2: the zero Map lies at %d", m.Off())
	}
}
