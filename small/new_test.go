package small_test

import (
	"fmt"
	"math"
	"strings"
	"testing"

	"larder/api"
	"larder/arena"
	"larder/small"
)

// TestNewIsEmpty: byte by byte, in a block that held other bytes once.
func TestNewIsEmpty(t *testing.T) {
	benches(t, func(b *bench) {
		if st, e := b.s.Stat(); st != (api.SmallStat{}) || e != api.OK {
			t.Fatalf("P11.1: Stat of a new one: %+v, error %d", st, e)
		}
		for at, want := range []uint64{1, 0, 0, 0, 0x8080808080808080} {
			if v, e := b.a.Load(b.off+8*at, 8); v != want || e != api.OK {
				t.Fatalf("P11.1: the word at %d is %#x, error %d, want %#x", 8*at, v, e, want)
			}
		}
		size, e := b.a.Size(b.off)
		answers(t, "Size", e, api.OK)
		if size != arena.Class(32+b.l.Group) {
			t.Fatalf("P11.1: the block has %d bytes, want the class of 32 and %d", size, b.l.Group)
		}
		rest, e := b.a.Read(b.off+40, size-40)
		answers(t, "Read", e, api.OK)
		alike(t, "P11.1: the slots", rest, strings.Repeat("\x00", size-40))
	})
}

// TestNewAtTheLimit: limits at which the block just fits and just doesn't; where it doesn't, nothing changes.
func TestNewAtTheLimit(t *testing.T) {
	for _, d := range descriptors {
		l := lay(t, d)
		class := arena.Class(32 + l.Group)
		for _, held := range []int{0, 48} {
			for _, limit := range []int{held, held + 32, held + class/2, held + class - 1, held + class, held + class + 1} {
				a := open(t, limit)
				if held > 0 {
					a.Alloc(held)
				}
				before := look(t, a)
				what := fmt.Sprintf("P11.1: New, %v, %d bytes held, limit %d", d, held, limit)
				s, e := small.New(a, l)
				if limit < held+class {
					answers(t, what, e, api.ErrMemory)
					if s != (small.Small{}) {
						t.Fatalf("%s answers one beside the error", what)
					}
					like(t, what, a, before)
					continue
				}
				answers(t, what, e, api.OK)
				if s.Off() != 16+held || a.Live() != held+class || a.End() != 16+held+class {
					t.Fatalf("%s lies at %d, live %d, end %d", what, s.Off(), a.Live(), a.End())
				}
			}
		}
	}
}

// TestNewWhereOneWas: it begins empty, though the old one's bytes were all used.
func TestNewWhereOneWas(t *testing.T) {
	benches(t, func(b *bench) {
		b.fill(8)
		b.s.Pin(9)
		b.s.Retire(-3)
		answers(t, "P11.9: Free", b.s.Free(), api.OK)
		again, e := small.New(b.a, b.l)
		answers(t, "P11.1: New", e, api.OK)
		if again != b.s {
			t.Fatalf("W4: the new one lies at %d, want %d", again.Off(), b.off)
		}
		b.p = newPlain()
		b.holds("P11.1: New where one was")
	})
}

// TestAtLooksAtNothing: any number, and the same value as New's where it is the same place.
func TestAtLooksAtNothing(t *testing.T) {
	b := set(t, descriptors[3])
	before := look(t, b.a)
	for _, off := range []int{math.MinInt, -1 << 32, -64, -1, 0, 1, 15, 16, b.off, b.off + 1, b.off + 32, b.a.End(), 1 << 40, math.MaxInt} {
		if s := small.At(b.a, b.l, off); s.Off() != off || (s == b.s) != (off == b.off) {
			t.Errorf("P11.2: At(%d): offset %d", off, s.Off())
		}
	}
	like(t, "P11.2: At", b.a, before)
}

// TestAtOutsideOfAllBlocks: nothing was ever there; that no call panics is all that is asked, and each of them is refused as a dead one's is.
func TestAtOutsideOfAllBlocks(t *testing.T) {
	a, l, o := open(t, 4096), lay(t, descriptors[0]), ask(t)
	if _, e := small.New(a, l); e != api.OK {
		t.Fatal(e)
	}
	for _, off := range []int{math.MinInt, math.MinInt + 8, -16, 0, 8, a.End(), a.End() + 64, 1 << 40, math.MaxInt - 31, math.MaxInt} {
		s := small.At(a, l, off)
		for _, c := range calls {
			refuses(t, a, c, s, args{tag: 5, key: "a", elem: "x", o: o}, api.ErrDead)
		}
		for i := range s.Cells() {
			t.Fatalf("Cells at %d gives slot %d", off, i)
		}
	}
}

// TestTwoValuesAreOne: what is done by one is seen by the other.
func TestTwoValuesAreOne(t *testing.T) {
	benches(t, func(b *bench) {
		both := [2]small.Small{b.s, small.At(b.a, b.l, b.off)}
		for i := range 9 {
			b.s = both[i%2]
			b.put(i, 1+i, 2+i, i)
			b.s = both[1-i%2]
			b.holds("P11.2: put by one value, asked by another")
		}
		b.delete(3, 4)
		answers(t, "P11.8: Retire", both[0].Retire(77), api.OK)
		b.p.kind, b.p.next = 3, 77
		b.s = both[1]
		b.holds("P11.2: retired by another value")
		answers(t, "P11.9: Free", both[0].Free(), api.OK)
		_, e := both[1].Stat()
		answers(t, "P11.9: Stat of the other value", e, api.ErrDead)
	})
}

// TestStatTellsEachWord: each word of the header has a number of its own.
func TestStatTellsEachWord(t *testing.T) {
	b := set(t, descriptors[0])
	b.fill(5)
	b.s.Pin(1 << 40)
	b.s.SetNext(-99)
	want := api.SmallStat{Used: 5, Pins: 1 << 40, Next: -99}
	if st, e := b.s.Stat(); st != want || e != api.OK {
		t.Errorf("P11.2: Stat = %+v, error %d, want %+v", st, e, want)
	}
	b.s.Retire(1 << 50)
	want.Next, want.Retired = 1<<50, true
	if st, e := b.s.Stat(); st != want || e != api.OK {
		t.Errorf("P11.2: Stat of a retired one = %+v, error %d, want %+v", st, e, want)
	}
	for at, want := range map[int]int{0: 3, 8: 1 << 40, 16: 1 << 50, 24: 5} {
		if v, e := b.a.Load(b.off+at, 8); v != uint64(want) || e != api.OK {
			t.Errorf("P11.2: the header's word at %d is %d, error %d, want %d", at, v, e, want)
		}
	}
}

// TestTwoInOneArena: each has keys of its own.
func TestTwoInOneArena(t *testing.T) {
	b := set(t, descriptors[3])
	b.fill(8)
	other, e := small.New(b.a, b.l)
	answers(t, "P11.1: a second New", e, api.OK)
	for i := range 8 {
		other.Put(i%3, text(5, 1+i), text(4, 90), 7)
	}
	other.Delete(0, text(5, 1))
	other.Pin(3)
	other.Retire(5)
	b.tells("W2: beside a second one")
	if st, e := other.Stat(); st != (api.SmallStat{Used: 7, Pins: 3, Next: 5, Retired: true}) || e != api.OK {
		t.Errorf("P11.2: Stat of the second = %+v, error %d", st, e)
	}
	answers(t, "P11.9: Free of the second", other.Free(), api.OK)
	b.holds("P11.9: beside a freed one")
}
