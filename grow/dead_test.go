package grow_test

import (
	"math/rand"
	"testing"

	"larder/api"
	"larder/table"
)

// TestADeadTableRefusesAll: whatever it held; by the value of New and by one of At.
func TestADeadTableRefusesAll(t *testing.T) {
	r := rand.New(rand.NewSource(91))
	benches(t, func(name string, b *bench) {
		b.crowd(r, 3)
		answers(t, "Free", b.tb.Free(), api.OK)
		for _, tb := range []table.Table{b.tb, table.At(b.a, b.l, b.tb.Off())} {
			for _, c := range calls {
				refusesAll(t, "P9.1: "+name, c, tb, b.o, api.ErrDead)
			}
		}
	})
}

// TestDeadAheadOfAllElse: a dead table as deep as one can be, in an arena that has no room for another.
func TestDeadAheadOfAllElse(t *testing.T) {
	o := letters(t)
	a, tb := example(t, 448, 16, 6, o, "abc")
	answers(t, "Free", tb.Free(), api.OK)
	for range 448 / 16 {
		_, e := a.Alloc(16)
		answers(t, "Alloc", e, api.OK)
	}
	for _, c := range calls {
		refusesAll(t, "P9.1: a table of depth 6", c, tb, o, api.ErrDead)
	}
}

// TestDeadBesideTheLiving: of two tables one is freed; the calls do to the other what they always do.
func TestDeadBesideTheLiving(t *testing.T) {
	o := letters(t)
	for _, c := range calls {
		a, tb := example(t, 4096, 16, 0, o, "abcdefghi")
		other, e := table.New(a, tb.Layout(), 16, 0)
		answers(t, "table.New", e, api.OK)
		answers(t, "Free", tb.Free(), api.OK)
		refusesAll(t, "P9.1: beside a living one", c, tb, o, api.ErrDead)
		_, _, e = c.do(other, o, 0)
		answers(t, c.name+" of the living one", e, api.OK)
	}
}

// TestSomethingElseStandsThere: of what the calls answer then nothing is said, but they end without a panic.
func TestSomethingElseStandsThere(t *testing.T) {
	o := letters(t)
	for _, b := range []byte{0x00, 0x01, 0x40, 0x7F, 0x80, 0xFE, 0xFF} {
		for _, c := range calls {
			a, tb := example(t, 4096, 16, 0, o, "abcdefghi")
			answers(t, "Free", tb.Free(), api.OK)
			offs, e := a.AllocAll(64, 272)
			answers(t, "AllocAll", e, api.OK)
			for _, off := range offs {
				answers(t, "Fill", a.Fill(off, 64, b), api.OK)
			}
			c.do(tb, o, 0)
		}
	}
}
