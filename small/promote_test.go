package small_test

import (
	"fmt"
	"testing"

	"larder/api"
	"larder/arena"
	"larder/oracle"
	"larder/small"
	"larder/table"
)

// promotes: Promote leaves the arena as a table does that is made and filled by hand in a twin of it; so the table lies where it must, and the small block is as it was.
func (b *bench) promotes(what string, o *oracle.Oracle, seed uint64) table.Table {
	b.t.Helper()
	before := look(b.t, b.a)
	other := twin(b.t, b.a)
	want, e := table.New(other, b.l, 16, 0)
	answers(b.t, what+": table.New", e, api.OK)
	for _, c := range b.p.cells {
		if c.Kind == api.CellFull {
			_, e := want.Put(o.Hash(seed, c.Key), c.Key, c.Elem, c.Birth)
			answers(b.t, what+": table.Put", e, api.OK)
		}
	}
	got, e := b.s.Promote(o, seed)
	answers(b.t, what+": Promote", e, api.OK)
	if got.Off() != want.Off() || got.Arena() != b.a || got.Layout() != b.l {
		b.t.Fatalf("%s: P11.7: the table lies at %d, want %d; its layout is %+v", what, got.Off(), want.Off(), got.Layout())
	}
	like(b.t, what, b.a, look(b.t, other))
	after := look(b.t, b.a)
	for off, bytes := range before.bytes {
		alike(b.t, fmt.Sprintf("%s: P11.10: the block at %d", what, off), after.bytes[off], bytes)
	}
	b.tells(what)
	return got
}

// holdsAll: the table has 16 slots and depth 0, and each of the cells with the tag of its hash; of two cells with one key the first, with the last one's elem.
func (b *bench) holdsAll(what string, tb table.Table, o *oracle.Oracle, seed uint64) {
	b.t.Helper()
	want := map[string]api.Cell{}
	for _, g := range b.fulls() {
		c, ok := want[g.cell.Key]
		if !ok {
			c = g.cell
			c.Tag = int(o.Hash(seed, c.Key) % 128)
		}
		c.Elem = g.cell.Elem
		want[c.Key] = c
	}
	st, e := tb.Stat()
	answers(b.t, what+": Stat", e, api.OK)
	if st != (api.TableStat{Used: len(want), Slots: 16, Left: 14 - len(want), Groups: st.Groups}) {
		b.t.Fatalf("%s: P11.7: the table's Stat is %+v, want %d used", what, st, len(want))
	}
	for key, c := range want {
		if got, e := tb.Get(o.Hash(seed, key), key); got != c || e != api.OK {
			b.t.Fatalf("%s: P11.7: the table has %#v, error %d, want %#v", what, got, e, c)
		}
	}
	n := 0
	for range tb.Cells() {
		n++
	}
	if n != len(want) {
		b.t.Fatalf("%s: P11.7: the table has %d cells, want %d", what, n, len(want))
	}
}

// overs: the hashes of the keys 1 to 8.
func overs(l api.Layout, hash func(i int) uint64) []api.Over {
	var list []api.Over
	for i := 1; i <= 8; i++ {
		list = append(list, api.Over{Key: text(l.Key, i), Hash: hash(i)})
	}
	return list
}

// TestPromote: none to eight cells, with hashes that are all the same, that lie in both groups, and that the seed mixes.
func TestPromote(t *testing.T) {
	hashes := map[string]func(i int) uint64{
		"all 5":             func(int) uint64 { return 5 },
		"all ones":          func(int) uint64 { return 1<<64 - 1 },
		"in both groups":    func(i int) uint64 { return uint64(i%2)*128 + uint64(i) },
		"with top bits":     func(i int) uint64 { return uint64(i)<<61 + 3 },
		"with one tag each": func(i int) uint64 { return uint64(128 - i) },
	}
	for name, hash := range hashes {
		for n := range 9 {
			benches(t, func(b *bench) {
				b.fill(n)
				o := ask(t, overs(b.l, hash)...)
				what := fmt.Sprintf("P11.7: %d cells, hashes %s", n, name)
				b.holdsAll(what, b.promotes(what, o, 9), o, 9)
			})
		}
	}
	for _, seed := range []uint64{0, 1, 1 << 63, 1<<64 - 1} {
		for n := range 9 {
			benches(t, func(b *bench) {
				b.fill(n)
				o := ask(t)
				what := fmt.Sprintf("P11.7: %d cells, seed %d", n, seed)
				b.holdsAll(what, b.promotes(what, o, seed), o, seed)
			})
		}
	}
}

// TestPromoteWithEmptySlots: in rising order of the slots, not of the births or of the puts.
func TestPromoteWithEmptySlots(t *testing.T) {
	benches(t, func(b *bench) {
		b.fill(8)
		for _, slot := range []int{5, 0, 3} {
			b.drop(slot)
		}
		b.put(7, 1, 9, 2000)
		o := ask(t, overs(b.l, func(int) uint64 { return 77 })...)
		tb := b.promotes("P11.7: with empty slots", o, 0)
		for i, g := range b.fulls() {
			want := g.cell
			want.Tag = 77
			if c, e := tb.Cell(i); c != want || e != api.OK {
				t.Fatalf("P11.7: slot %d of the table holds %#v, error %d, want %#v", i, c, e, want)
			}
		}
	})
}

// TestPromoteOneKeyUnderTwoTags: each cell is put; the second finds the key there.
func TestPromoteOneKeyUnderTwoTags(t *testing.T) {
	benches(t, func(b *bench) {
		b.put(5, 1, 2, 10)
		b.put(9, 2, 3, 11)
		b.put(6, 1, 4, 12)
		o := ask(t)
		b.holdsAll("P11.7: one key under two tags", b.promotes("P11.7: one key under two tags", o, 4), o, 4)
	})
}

// TestPromoteTwice: the first table is not seen by the second one.
func TestPromoteTwice(t *testing.T) {
	benches(t, func(b *bench) {
		b.fill(8)
		o := ask(t)
		first := b.promotes("P11.7: Promote", o, 1)
		second := b.promotes("P11.7: Promote again, with another seed", o, 2)
		first.Put(o.Hash(1, text(b.l.Key, 99)), text(b.l.Key, 99), text(b.l.Elem, 1), 0)
		b.holdsAll("P11.7: the second table", second, o, 2)
		answers(t, "Free of the first", first.Free(), api.OK)
		answers(t, "Free of the second", second.Free(), api.OK)
		b.tells("P11.7: both tables freed")
	})
}

// TestPromoteAtEachLimit: nothing fits, the header's block alone, all but a byte, all.
func TestPromoteAtEachLimit(t *testing.T) {
	for _, d := range descriptors {
		l := lay(t, d)
		there, groups := arena.Class(32+l.Group), arena.Class(2*l.Group)
		for _, n := range fillings {
			for _, more := range []int{0, 1, 63, 64, 65, groups - 1, groups, groups + 1, 64 + groups - 1, 64 + groups, 64 + groups + 1} {
				a := open(t, there+more)
				s, e := small.New(a, l)
				answers(t, "New", e, api.OK)
				for i := range n {
					s.Put(i, text(l.Key, 1+i), text(l.Elem, i), i)
				}
				if more < 64+groups {
					for range 2 {
						refuses(t, a, named("Promote"), s, args{o: ask(t)}, api.ErrMemory)
					}
					continue
				}
				tb, e := s.Promote(ask(t), 0)
				answers(t, "P11.7: Promote where it just fits", e, api.OK)
				st, _ := tb.Stat()
				if a.Live() != there+64+groups || tb.Off() != 16+there || st.Groups != 16+there+64 {
					t.Fatalf("P11.7: the table lies at %d, its groups at %d, live %d", tb.Off(), st.Groups, a.Live())
				}
			}
		}
	}
}
