package grow_test

import (
	"fmt"
	"math/rand"
	"testing"

	"larder/api"
	"larder/grow"
	"larder/oracle"
	"larder/table"
)

// renews: Renew makes what the plain table says, where the arena lays it, and nothing else.
func (b *bench) renews(what string, o *oracle.Oracle, seed uint64) {
	b.t.Helper()
	want := b.picture()
	off := want.add(b.l, b.p.resized(len(b.p.cells), with(o, seed)))
	tb, e := grow.Renew(b.tb, o, seed)
	b.made(what+": P9.5: Renew", e, want, []int{off}, tb)
}

// doubles: so does Double.
func (b *bench) doubles(what string, o *oracle.Oracle, seed uint64) {
	b.t.Helper()
	want := b.picture()
	off := want.add(b.l, b.p.resized(2*len(b.p.cells), with(o, seed)))
	tb, e := grow.Double(b.tb, o, seed)
	b.made(what+": P9.5: Double", e, want, []int{off}, tb)
}

// splits: so does Split: the low one is laid first.
func (b *bench) splits(what string, o *oracle.Oracle, seed uint64) {
	b.t.Helper()
	want := b.picture()
	low, high := b.p.split(with(o, seed))
	offs := []int{want.add(b.l, low), want.add(b.l, high)}
	l, h, e := grow.Split(b.tb, o, seed)
	b.made(what+": P9.6: Split", e, want, offs, l, h)
}

// made: the call made these tables, and the arena is what the picture says. They are freed again, so that the bench is as it was but for free blocks.
func (b *bench) made(what string, e api.Errno, want picture, offs []int, tables ...table.Table) {
	b.t.Helper()
	answers(b.t, what, e, api.OK)
	like(b.t, what, b.a, want)
	for i, tb := range tables {
		if tb != table.At(b.a, b.l, offs[i]) {
			b.t.Fatalf("%s: table %d lies at %d, want %d", what, i, tb.Off(), offs[i])
		}
		answers(b.t, what+", then Free", tb.Free(), api.OK)
	}
	b.want.live, b.want.end, b.want.parts = b.a.Live(), b.a.End(), b.a.Parts()
	b.holds(what + ", then Free")
}

// TestReplacedByWords: tables as full as can be and less, with marks and without; with the keys' own hashes and with others.
func TestReplacedByWords(t *testing.T) {
	r := rand.New(rand.NewSource(96))
	for _, every := range []int{1, 3, 0} {
		benches(t, func(name string, b *bench) {
			b.crowd(r, every)
			b.dress()
			for _, x := range append(b.others(), hashing{b.o, b.seed}) {
				b.renews(name, x.o, x.seed)
				b.doubles(name, x.o, x.seed)
				b.splits(name, x.o, x.seed)
			}
		})
	}
}

// TestReplacedWhenFull: a table without marks and without room, and an empty one.
func TestReplacedWhenFull(t *testing.T) {
	benches(t, func(name string, b *bench) {
		for key := 0; ; key++ {
			if key == 0 || b.p.left == 0 {
				b.renews(name, b.o, b.seed)
				b.doubles(name, b.o, b.seed)
				b.splits(name, b.o, b.seed)
			}
			if b.p.left == 0 {
				return
			}
			b.put(1 + key)
		}
	})
}

// TestReplacementIsNew: of a table that is retired, pinned, has a next one, marks and less room than it might have.
func TestReplacementIsNew(t *testing.T) {
	o := letters(t)
	_, tb := example(t, 1<<16, 16, 3, o, "abcdefghijkl")
	takesOut(t, tb, o, "b")
	answers(t, "AddLeft", tb.AddLeft(-1), api.OK)
	answers(t, "Retire", tb.Retire(99), api.OK)
	_, e := tb.Pin(5)
	answers(t, "Pin", e, api.OK)
	before := look(t, tb.Arena())
	renewed, e := grow.Renew(tb, o, 0)
	answers(t, "P9.5: Renew", e, api.OK)
	doubled, e := grow.Double(tb, o, 0)
	answers(t, "P9.5: Double", e, api.OK)
	low, high, e := grow.Split(tb, o, 0)
	answers(t, "P9.6: Split", e, api.OK)
	shows(t, "P9.5: renewed", renewed, 16, 11, 3, 3, "acdefghijkl")
	shows(t, "P9.5: doubled", doubled, 32, 11, 17, 3, "acdefghijkl")
	shows(t, "P9.6: the low one", low, 16, 11, 3, 4, "acdefghijkl")
	shows(t, "P9.6: the high one", high, 16, 0, 14, 4, "")
	for _, fresh := range []table.Table{high, low, doubled, renewed} {
		answers(t, "Free", fresh.Free(), api.OK)
	}
	now := look(t, tb.Arena())
	for off, s := range before.bytes {
		alike(t, fmt.Sprintf("P9.5, P9.6: the old one's block at %d", off), now.bytes[off], s)
	}
}

// TestDoubledSlots: with four groups in place of two, homes that were one are two; the order of the old slots decides who lies first.
func TestDoubledSlots(t *testing.T) {
	o := ask(t,
		api.Over{Key: "a", Hash: hash(2, 1)}, api.Over{Key: "b", Hash: hash(1, 2)},
		api.Over{Key: "c", Hash: hash(3, 3)}, api.Over{Key: "d", Hash: hash(0, 4)},
		api.Over{Key: "e", Hash: hash(6, 4)}, api.Over{Key: "f", Hash: hash(5, 127)})
	_, tb := example(t, 1<<16, 16, 0, o, "abcdef")
	shows(t, "t", tb, 16, 6, 8, 0, "ade.....bcf.....")
	takesOut(t, tb, o, "a")
	_, e := tb.Put(o.Hash(0, "a"), "a", "", 70)
	answers(t, "Put", e, api.OK)
	doubled, e := grow.Double(tb, o, 0)
	answers(t, "P9.5: Double", e, api.OK)
	shows(t, "P9.5: doubled", doubled, 32, 6, 22, 0, "d.......bf......ae......c.......")
	if c, _ := doubled.Cell(16); c != (api.Cell{Kind: api.CellFull, Tag: 1, Key: "a", Birth: 70}) {
		t.Errorf("P9.5: a's cell is %#v", c)
	}
}

// TestTheBitOfEachDepth: keys whose hashes have all the values of the top six bits; at every depth the next bit decides.
func TestTheBitOfEachDepth(t *testing.T) {
	var over []api.Over
	for i := range 64 {
		over = append(over, api.Over{Key: text(1, i), Hash: uint64(i)<<58 | hash(uint64(i%8), 127-i)})
	}
	o := ask(t, over...)
	for depth := range 6 {
		b := set(t, descriptors[0], 128, depth, o, 0)
		for i := range 64 {
			b.put(i)
		}
		low, high, e := grow.Split(b.tb, o, 0)
		answers(t, "P9.6: Split", e, api.OK)
		for which, tb := range []table.Table{low, high} {
			if st, _ := tb.Stat(); st.Depth != depth+1 || st.Slots != 128 || st.Used != 32 || st.Left != 80 {
				t.Errorf("P9.6: depth %d: table %d is %+v", depth, which, st)
			}
			for i := range 64 {
				digits := fmt.Sprintf("%06b", i)
				n, e := tb.Find(o.Hash(0, text(1, i)), text(1, i))
				if there := digits[depth] == "01"[which]; n >= 0 != there || e != api.OK {
					t.Fatalf("P9.6: depth %d: a hash that begins with %s: Find in table %d = %d, error %d", depth, digits, which, n, e)
				}
			}
		}
	}
}

// TestAKeyThatLiesTwice: put with two hashes; each cell is put in its turn, so the later one's elem stays beside the first one's birth.
func TestAKeyThatLiesTwice(t *testing.T) {
	o := ask(t, kinds[3].over(5)...)
	for _, slots := range sizes {
		b := set(t, descriptors[2], slots, 2, o, 11)
		b.putWith(hash(1, 5), 1)
		b.putWith(hash(1, 6), 2)
		b.putWith(hash(0, 7), 1)
		b.putWith(hash(1, 8), 1)
		if b.p.of(api.CellFull) != 4 {
			t.Fatalf("%d cells are full", b.p.of(api.CellFull))
		}
		b.renews("a key that lies twice", o, 11)
		b.doubles("a key that lies twice", o, 11)
		b.splits("a key that lies twice", o, 11)
	}
	one := ask(t, api.Over{Key: "a", Hash: 3})
	a, l := open(t, 4096), lay(t, [5]int{1, 1, 1, 1, 16})
	tb, e := table.New(a, l, 16, 0)
	answers(t, "table.New", e, api.OK)
	for i, elem := range []string{"x", "y"} {
		_, e := tb.Put(hash(0, i), "a", elem, 50+i)
		answers(t, "Put", e, api.OK)
	}
	renewed, e := grow.Renew(tb, one, 0)
	answers(t, "P9.5: Renew", e, api.OK)
	if c, e := renewed.Get(3, "a"); c != (api.Cell{Kind: api.CellFull, Tag: 3, Key: "a", Elem: "y", Birth: 50}) || e != api.OK {
		t.Errorf("P9.5: the cell is %#v, error %d", c, e)
	}
	if st, _ := renewed.Stat(); st.Used != 1 || st.Left != 13 {
		t.Errorf("P9.5: Stat = %+v", st)
	}
}
