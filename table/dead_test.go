package table_test

import (
	"math"
	"testing"

	"larder/api"
	"larder/table"
)

// TestFreeGivesBothBlocks: just these two, whatever the table held; all others stay.
func TestFreeGivesBothBlocks(t *testing.T) {
	benches(t, func(b *bench) {
		b.crowd()
		want := b.picture()
		answers(t, "P8.14: Free", b.tb.Free(), api.OK)
		for i, p := range want.parts {
			if p.Off == b.off || p.Off == b.groups {
				want.parts[i].Live = false
				want.live -= p.Size
			}
		}
		like(t, "P8.14: Free", b.a, want)
	})
}

// TestADeadTableRefusesAll: with right arguments and with wrong ones.
func TestADeadTableRefusesAll(t *testing.T) {
	benches(t, func(b *bench) {
		b.crowd()
		other := table.At(b.a, b.l, b.off)
		answers(t, "P8.14: Free", b.tb.Free(), api.OK)
		key, elem := text(b.l.Key, 2), text(b.l.Elem, 3)
		all := []args{
			{h: hash(0, 1), key: key, elem: elem},
			{h: hash(0, 1), key: key + "k", elem: elem},
			{h: hash(0, 1), key: "", elem: elem + "e", birth: -1},
			{h: hash(0, 1), key: key, elem: elem + "e", birth: -1, n: -1},
			{h: hash(0, 1), key: key, elem: elem, birth: -1, n: math.MinInt},
			{h: hash(0, 1), key: key, elem: elem, birth: 9, n: math.MaxInt},
			{h: math.MaxUint64, key: key, elem: elem, n: len(b.p.cells)},
		}
		for _, tb := range []table.Table{b.tb, other} {
			for _, c := range calls {
				for _, x := range all {
					refuses(t, c, tb, x, api.ErrDead)
				}
			}
			for i := range tb.Cells() {
				t.Fatalf("Cells of a dead table gives slot %d", i)
			}
			if tb.Off() != b.off || tb.Arena() != b.a || tb.Layout() != b.l || tb != table.At(b.a, b.l, b.off) {
				t.Fatal("P8.2: a dead table has another place")
			}
		}
	})
}

// TestDeadBesideTheLiving: of two tables one is freed; the other answers as before.
func TestDeadBesideTheLiving(t *testing.T) {
	b := set(t, descriptors[3], 16, 0)
	b.crowd()
	before := look(t, b.a)
	other, e := table.New(b.a, b.l, 64, 2)
	answers(t, "P8.1: New", e, api.OK)
	for i := range 20 {
		puts(t, other, hash(uint64(i), i), text(5, i), text(4, i), i, api.PutAdded)
	}
	answers(t, "P8.14: Free", other.Free(), api.OK)
	_, e = other.Stat()
	answers(t, "P8.14: Stat of the freed one", e, api.ErrDead)
	if now := look(t, b.a); now.live != before.live {
		t.Errorf("P8.14: live is %d, want %d", now.live, before.live)
	}
	b.around.end, b.around.parts = b.a.End(), b.a.Parts()
	b.holds("P8.14: beside a freed table")
}

// TestANewTableWhereOneWas: it begins empty, with its own numbers, though the old one's bytes were all used.
func TestANewTableWhereOneWas(t *testing.T) {
	benches(t, func(b *bench) {
		b.crowd()
		b.tb.Pin(9)
		b.tb.Retire(-3)
		answers(t, "P8.14: Free", b.tb.Free(), api.OK)
		again, e := table.New(b.a, b.l, len(b.p.cells), 1)
		answers(t, "P8.1: New", e, api.OK)
		if again != b.tb {
			t.Fatalf("W4: the new table lies at %d, want %d", again.Off(), b.off)
		}
		b.p = newPlain(len(b.p.cells), 1)
		b.holds("P8.1: New where a table was")
	})
}
