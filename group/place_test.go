package group_test

import (
	"fmt"
	"math"
	"testing"

	"larder/api"
	"larder/arena"
	"larder/group"
)

// dead: each call of a group that isn't there is refused, with right arguments too, and nothing has changed.
func dead(t *testing.T, what string, a *arena.Arena, l api.Layout, off int) {
	t.Helper()
	what = fmt.Sprintf("P6.1: %s: %v at %d", what, l, off)
	before := look(t, a)
	g := group.At(a, l, off)
	right := args{i: 3, tag: 40, key: text(min(max(l.Key, 0), 300), 7), elem: text(min(max(l.Elem, 0), 300), 9), birth: 5}
	for _, c := range calls {
		for i := range 8 {
			right.i = i
			want := c.refusal(l, right) // a width below 0, or a great one, is no text's
			if want == api.OK {
				want = api.ErrDead
			}
			c.refused(t, what, g, right, want)
		}
	}
	if g.Cells() == nil {
		t.Fatalf("%s: Cells is nil", what)
	}
	same(t, what+": Cells", gone(g), nil)
	like(t, what, a, before)
}

func TestNoGroupOfAWrongLayout(t *testing.T) {
	benches(t, func(b *bench) {
		b.mix()
		off := b.block + b.at
		dead(t, "no layout", b.a, api.Layout{}, off)
		for n := range 5 { // (a width or an alignment changed alone may be right)
			for _, by := range []int{-1, 1, 8, -8, 1 << 32} {
				l := b.l
				*[]*int{&l.Cap, &l.ElemOff, &l.BirthOff, &l.Slot, &l.Group}[n] += by
				dead(t, "a wrong layout", b.a, l, off)
			}
		}
		for _, n := range []int{math.MinInt, -1, 0, 129, math.MaxInt} {
			wide, long := b.l, b.l
			wide.Key = n
			dead(t, "a key of a wrong width", b.a, wide, off)
			if n != 0 {
				long.Elem = n
				dead(t, "an elem of a wrong width", b.a, long, off)
			}
			small := b.l
			small.Slot, small.Group = n, n
			dead(t, "a group of wrong bytes", b.a, small, off)
		}
		b.holds("P6.1: behind all that was refused")
	})
}

func TestNoGroupOutsideABlock(t *testing.T) {
	benches(t, func(b *bench) {
		b.mix()
		for _, off := range []int{
			math.MinInt, math.MinInt + 1, math.MinInt + b.l.Group, -1 << 32, -b.l.Group, -16, -8, -1,
			0, 1, 8, 15,
			math.MaxInt32, api.MaxMem, math.MaxInt - b.l.Group - 1, math.MaxInt - b.l.Group, math.MaxInt - b.l.Group + 1, math.MaxInt - 1, math.MaxInt,
		} {
			dead(t, "an offset of no block", b.a, b.l, off)
		}
		last := b.block + b.size - b.l.Group // the last that lies inside
		for _, off := range []int{last + 1, last + 2, last + 8, last + b.l.Group/2, last + b.l.Group - 8, last + b.l.Group - 1, b.block - 1, b.block - 8} {
			dead(t, "over two live blocks", b.a, b.l, off)
		}
		for _, off := range []int{b.freed - 1, b.freed, b.freed + 1, b.freed + b.size - b.l.Group, b.freed + b.size - b.l.Group + 1} {
			dead(t, "in a free block", b.a, b.l, off)
		}
		dead(t, "a block that is too short", b.a, b.l, b.a.End()-16)
		dead(t, "behind the last block", b.a, b.l, b.a.End())
		b.holds("P6.1: behind all that was refused")
	})
}

// TestGroupsAtEveryByte: a group is there at all offsets from which on it lies in its block, multiples of 8 or not, and at no other.
func TestGroupsAtEveryByte(t *testing.T) {
	l := lay(t, [5]int{2, 1, 1, 1, 16})
	for at := -1; at <= 384-136+1; at++ {
		a, _ := arena.New(4096)
		a.AllocAll(384, 384, 384)
		g := group.At(a, l, 400+at)
		want := api.OK
		if at < 0 || at > 384-136 {
			want = api.ErrDead
		}
		answers(t, fmt.Sprintf("P6.1: Reset of a group at byte %d of its block", at), g.Reset(), want)
		answers(t, fmt.Sprintf("P6.1: Fill of a group at byte %d of its block", at), g.Fill(7, 1, "ab", "x", 2), want)
	}
}

// TestAtLooksAtNothing: a group may be named ahead of its block; it is there once the block is, and gone with it.
func TestAtLooksAtNothing(t *testing.T) {
	for _, off := range []int{math.MinInt, -1, 0, 17, math.MaxInt} {
		for _, l := range []api.Layout{{}, {Key: -1, Group: math.MinInt}, {Key: 1, Slot: math.MaxInt, Group: math.MaxInt}} {
			a, _ := arena.New(0)
			dead(t, "P6.2: any number, any layout", a, l, off)
		}
	}
	for _, d := range descriptors {
		l := lay(t, d)
		a, _ := arena.New(1 << 16)
		g := group.At(a, l, 16)
		cells := g.Cells()
		dead(t, "P6.2: ahead of its block", a, l, 16)
		off, _ := a.Alloc(l.Group)
		zero := full(l, 0, 0, 0, 0)
		var want []given
		for i := range 8 {
			want = append(want, given{i, zero})
		}
		same(t, "P6.2: Cells of a block that was just allocated", gone(g), want)
		var got []given
		for i, c := range cells {
			got = append(got, given{i, c})
		}
		same(t, "P6.10: Cells that was asked for ahead of the block", got, want)
		if w, e := g.Word(); w != 0 || e != api.OK {
			t.Fatalf("P6.4: Word of a block of zeros = %#x, error %d", w, e)
		}
		answers(t, "Free", a.Free(off), api.OK)
		dead(t, "P6.2: behind its block's Free", a, l, 16)
	}
}

// TestSamePlaceSameGroup: what is done through one value is seen through another of the same place, and through a copy.
func TestSamePlaceSameGroup(t *testing.T) {
	benches(t, func(b *bench) {
		first, copied := b.g, b.g
		again := group.At(b.a, b.l, b.block+b.at)
		for i, g := range []group.Group{first, copied, again, again, copied, first, again, copied} {
			b.g = g
			b.put(i, full(b.l, i, i, 30+i, i))
			for _, other := range []group.Group{first, copied, again} {
				b.g = other
				b.tells("P6.2: one place")
			}
		}
		b.holds("P6.2: one place")
	})
}

// TestNeighboursAreApart: groups one behind the other in one block, and at the same offsets of another arena.
func TestNeighboursAreApart(t *testing.T) {
	for _, d := range descriptors {
		l := lay(t, d)
		a, _ := arena.New(1 << 16)
		other, _ := arena.New(1 << 16)
		off, _ := a.Alloc(3 * l.Group)
		other.Alloc(3 * l.Group)
		untouched := look(t, other)
		var cells [3][8]api.Cell
		for n := range 3 {
			answers(t, "Reset", group.At(a, l, off+n*l.Group).Reset(), api.OK)
		}
		for step := range 60 {
			n, i := step%3, step*5%8
			g := group.At(a, l, off+n*l.Group)
			cells[n][i] = full(l, step, step, step+1, step)
			answers(t, "Fill", g.Fill(i, step, cells[n][i].Key, cells[n][i].Elem, step), api.OK)
			want := painted(l, cells[0]) + painted(l, cells[1]) + painted(l, cells[2])
			if got, _ := a.Read(off, 3*l.Group); got != want {
				t.Fatalf("P6.11: behind Fill of slot %d of group %d, another's bytes have changed", i, n)
			}
		}
		like(t, "P6.11: another arena", other, untouched)
	}
}
