package order_test

import (
	"fmt"
	"maps"
	"testing"

	"larder/api"
	"larder/arena"
	"larder/oracle"
	"larder/order"
	"larder/swiss"
)

// TestRestored: P26.9: At of an arena that was made anew from another one's parts and bytes is the same tree; both are gone on with apart.
func TestRestored(t *testing.T) {
	d := draws(2611)
	benches(t, func(b *bench) {
		c := b.twin()
		c.whole("P26.9: the tree in an arena made anew")
		if one, two := stat(t, b), stat(t, c); one != two {
			t.Fatalf("P26.9: Stat is %v, in the arena made anew %v", one, two)
		}
		keys := 2*len(b.want) + 4
		for i := range 60 {
			x, other := b, c
			if i%2 == 1 {
				x, other = c, b
			}
			before := look(t, other.a)
			x.step(d, keys)
			x.sound("P26.9: gone on with")
			like(t, "P26.9: a call on the other arena's tree", other.a, before)
		}
		b.whole("P26.9: gone on with")
		c.whole("P26.9: gone on with, made anew")
	})
}

// TestRestoredGoesOnAlike: P26.9: what both are given from then on they answer alike, and their bytes are alike.
func TestRestoredGoesOnAlike(t *testing.T) {
	benches(t, func(b *bench) {
		c := b.twin()
		keys := 2*len(b.want) + 4
		one, two := draws(2612), draws(2612)
		for range 40 {
			b.step(one, keys)
			c.step(two, keys)
			if x, y := look(t, b.a), look(t, c.a); !maps.Equal(x.bytes, y.bytes) {
				t.Fatal("P26.9: the same calls on a tree and on the one made anew leave other bytes")
			}
		}
		b.whole("P26.9")
		c.whole("P26.9: made anew")
	})
}

// TestSameCallsSameBytes: W2: two arenas in which the same is done hold the same bytes at the same offsets.
func TestSameCallsSameBytes(t *testing.T) {
	for i, desc := range descriptors {
		var seen [2]picture
		for n := range seen {
			d := draws(int64(2613 + i))
			b := set(t, 1<<21, desc)
			for range 500 {
				b.step(d, 200)
			}
			seen[n] = look(t, b.a)
		}
		if !maps.Equal(seen[0].bytes, seen[1].bytes) || seen[0].end != seen[1].end {
			t.Errorf("W2: the same calls leave other bytes")
		}
	}
}

// TestTwoTrees: P26.9: trees of one arena, of unlike layouts, changed by turns: none sees another, no byte of another's blocks is changed, and one is freed among them.
func TestTwoTrees(t *testing.T) {
	a := open(t, 1<<21)
	d := draws(2614)
	var list []*bench
	for _, desc := range append(descriptors, descriptors[0]) {
		l := lay(t, desc)
		list = append(list, &bench{t: t, a: a, l: l, x: made(t, a, l)})
	}
	for i := range 3000 {
		b := list[d.Intn(len(list))]
		b.other = look(t, a).bytes
		own := blocksOf(t, b)
		for off := range own {
			delete(b.other, off)
		}
		what := b.step(d, 60+i/20)
		b.sound("P26.9: " + what)
		if i%200 == 0 {
			for _, b := range list {
				b.other = nil
				wholeAlone(b)
			}
		}
		if i%700 == 699 {
			answers(t, "P26.10: Free", b.x.Free(), api.OK)
			b.want, b.x = nil, made(t, a, b.l)
		}
	}
}

// blocksOf: where a tree's blocks lie: those that its Free frees in a twin of the arena.
func blocksOf(t *testing.T, b *bench) map[int]string {
	t.Helper()
	c := b.twin()
	own := look(t, c.a).bytes
	answers(t, "P26.10: Free in a twin", c.x.Free(), api.OK)
	for off := range look(t, c.a).bytes {
		delete(own, off)
	}
	if s := stat(t, b); len(own) != 1+s.Nodes {
		t.Fatalf("P26.10: Free frees %d blocks of a tree of %d nodes", len(own), s.Nodes)
	}
	return own
}

// wholeAlone: whole, of a tree among blocks that are not told apart here.
func wholeAlone(b *bench) {
	b.t.Helper()
	b.other = look(b.t, b.a).bytes
	for off := range blocksOf(b.t, b) {
		delete(b.other, off)
	}
	b.whole("P26.9: one of several trees")
}

// TestAmongMaps: P26.9: a tree and a map in one arena: neither changes a byte of the other.
func TestAmongMaps(t *testing.T) {
	a := open(t, 1<<20)
	o, e := oracle.New()
	answers(t, "oracle.New", e, api.OK)
	l := lay(t, descriptors[2])
	m, e := swiss.Make(a, l, o, 7, 0)
	answers(t, "swiss.Make", e, api.OK)
	b := &bench{t: t, a: a, l: l, x: made(t, a, l)}
	d := draws(2615)
	for i := range 400 {
		k := b.key(d.Intn(300))
		before := look(t, a).bytes
		if _, e := m.Put(k, b.elem(i)); e != api.OK {
			t.Fatalf("swiss.Put: %d", e)
		}
		for off := range blocksOf(t, b) {
			if now, _ := a.Read(off, len(before[off])); now != before[off] {
				t.Fatalf("a map's put changes the tree's block at %d", off)
			}
		}
		b.other = look(t, a).bytes
		for off := range blocksOf(t, b) {
			delete(b.other, off)
		}
		b.step(d, 300)
		b.sound("P26.9: beside a map")
	}
	b.whole("P26.9: beside a map")
	for i := range 300 {
		if _, there, e := m.Get(b.key(i)); e != api.OK {
			t.Fatalf("P26.9: the map's Get beside a tree: %v, error %d", there, e)
		}
	}
}

// TestStaleValues: P26.9: a map's value and a tree's, behind a Free, at whose place the other's header lies by now: each tells that it is dead.
func TestStaleValues(t *testing.T) {
	a := open(t, 4096)
	o, _ := oracle.New()
	l := lay(t, descriptors[0])
	x := made(t, a, l)
	answers(t, "Free", x.Free(), api.OK)
	m, e := swiss.Make(a, l, o, 0, 0)
	if e != api.OK || m.Off() != x.Off() {
		t.Fatalf("the test's map lies at %d, the tree was at %d, error %d", m.Off(), x.Off(), e)
	}
	for i, c := range calls("a", "b", "c", 0) {
		refuses(t, fmt.Sprint("a dead tree's call ", i), a, x, c, api.ErrDead)
	}
	answers(t, "Release", m.Release(), api.OK)
	y := made(t, a, l)
	if _, e := m.Len(); e != api.ErrDead || y.Off() != m.Off() {
		t.Errorf("Len of a released map, where a tree lies now: error %d", e)
	}
	answers(t, "Free", y.Free(), api.OK)
	b, e := arena.New(4096)
	answers(t, "arena.New", e, api.OK)
	_, e = order.At(b, l, x.Off()).Stat()
	answers(t, "Stat in an arena without blocks", e, api.ErrDead)
}
