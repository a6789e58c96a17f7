package small_test

import (
	"math"
	"testing"

	"larder/api"
	"larder/small"
)

// TestFreeGivesTheBlock: just this one, whatever it held; all others stay.
func TestFreeGivesTheBlock(t *testing.T) {
	for _, n := range fillings {
		benches(t, func(b *bench) {
			b.fill(n)
			want := b.picture()
			answers(t, "P11.9: Free", b.s.Free(), api.OK)
			for i, p := range want.parts {
				if p.Off == b.off {
					want.parts[i].Live = false
					want.live -= p.Size
				}
			}
			like(t, "P11.9: Free", b.a, want)
			b.refuses("Free", args{}, api.ErrDead)
			b.refuses("Free", args{}, api.ErrDead)
		})
	}
}

// TestADeadOneRefusesAll: with right arguments and with wrong ones, where there is memory for a table and where there is none.
func TestADeadOneRefusesAll(t *testing.T) {
	o := ask(t)
	benches(t, func(b *bench) {
		b.fill(8)
		b.s.Pin(2)
		other := small.At(b.a, b.l, b.off)
		answers(t, "P11.9: Free", b.s.Free(), api.OK)
		key, elem := text(b.l.Key, 1), text(b.l.Elem, 3)
		all := []args{
			{key: key, elem: elem},
			{key: key + "k", elem: elem},
			{tag: -1, key: "", elem: elem + "e", birth: -1},
			{tag: 128, key: key, elem: elem + "e", birth: -1, n: -1},
			{tag: 128, key: key, elem: elem, birth: -1, n: math.MinInt},
			{tag: 127, key: key, elem: elem, birth: -1, n: math.MaxInt},
			{tag: math.MinInt, key: key, elem: elem, birth: 9, n: 8},
			{tag: math.MaxInt, key: key, elem: elem, birth: math.MinInt, n: 7},
		}
		for _, s := range []small.Small{b.s, other} {
			for _, c := range calls {
				for _, x := range all {
					x.o = o
					refuses(t, b.a, c, s, x, api.ErrDead)
				}
			}
			cells := s.Cells()
			if cells == nil {
				t.Fatal("P11.6: Cells of a dead one is nil")
			}
			for i := range cells {
				t.Fatalf("Cells of a dead one gives slot %d", i)
			}
			if s.Off() != b.off || s != small.At(b.a, b.l, b.off) {
				t.Fatal("P11.2: a dead one has another place")
			}
		}
	})
}

// TestDeadWithoutMemory: a dead one's Promote is refused as dead, not for the memory.
func TestDeadWithoutMemory(t *testing.T) {
	for _, limit := range []int{192, 448, 640} {
		a, l := open(t, limit), lay(t, descriptors[0])
		s, e := small.New(a, l)
		answers(t, "New", e, api.OK)
		answers(t, "Free", s.Free(), api.OK)
		refuses(t, a, named("Promote"), s, args{o: ask(t)}, api.ErrDead)
	}
}

// TestDeadAloneInItsArena: what was freed is dead though no block is live at all.
func TestDeadAloneInItsArena(t *testing.T) {
	a, l := open(t, 4096), lay(t, descriptors[6])
	s, e := small.New(a, l)
	answers(t, "New", e, api.OK)
	answers(t, "Free", s.Free(), api.OK)
	if a.Live() != 0 {
		t.Errorf("P11.9: live is %d, want 0", a.Live())
	}
	for _, c := range calls {
		refuses(t, a, c, s, args{o: ask(t)}, api.ErrDead)
	}
}
