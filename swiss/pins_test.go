package swiss_test

import (
	"math"
	"slices"
	"testing"

	"larder/api"
	"larder/small"
	"larder/table"
)

// TestPinNoneOfIts: offsets that are no table and no small block of the map: of its other blocks, of other maps' tables, any int.
func TestPinNoneOfIts(t *testing.T) {
	staged(t, func(w *world, x *pair, name string) {
		other := w.maps[0]
		offs := append([]int{0, x.p.off, x.p.off + 1, w.a.End(), w.a.End() + 16}, far...)
		for _, p := range slices.Concat(x.p.current(), x.p.retired) {
			offs = append(offs, p.off-16, p.off-1, p.off+1, p.off+16)
			if !p.small {
				offs = append(offs, p.groups)
			}
		}
		for _, p := range other.p.current() {
			offs = append(offs, p.off)
		}
		offs = append(offs, x.p.dirOff, other.p.dirOff, other.p.off)
		for off := range w.strange {
			offs = append(offs, off)
		}
		for _, off := range offs {
			if p, _ := x.p.standing(off); p != nil {
				continue // a neighbour lies there
			}
			w.refuses(x, "Pin", args{off: off}, api.ErrBlock)
			w.refuses(x, "Unpin", args{off: off}, api.ErrBlock)
		}
	})
}

// TestPinEach: several pins on each table, on a small block and on the retired ones; off again, and a step too far.
func TestPinEach(t *testing.T) {
	staged(t, func(w *world, x *pair, name string) {
		for _, p := range slices.Concat(x.p.current(), x.p.retired) {
			before := p.pins
			for range 3 {
				answers(t, "P12.12: Pin", w.pin(x, p.off), api.OK)
			}
			for range 3 + before {
				answers(t, "P12.13: Unpin", w.unpin(x, p.off), api.OK)
			}
			want := api.ErrPins
			if q, _ := x.p.standing(p.off); q == nil {
				want = api.ErrBlock // it was retired, and is free
			}
			answers(t, "P12.13: a step too far", w.unpin(x, p.off), want)
		}
		if len(x.p.retired) != 0 {
			t.Fatalf("P12.13: %s: %d retired ones are left", name, len(x.p.retired))
		}
	})
}

// TestPinsAtTheirBound: MaxPins and no more.
func TestPinsAtTheirBound(t *testing.T) {
	for _, keys := range []int{3, 12} {
		l := lay(t, descriptors[0])
		w := begin(t, 1<<16, l, ask(t))
		x := w.make(l, 5, 0)
		w.fill(x, 1, keys)
		p := x.p.current()[0]
		var e api.Errno
		if p.small {
			_, e = small.At(w.a, l, p.off).Pin(1<<62 - 1)
		} else {
			_, e = table.At(w.a, l, p.off).Pin(1<<62 - 1)
		}
		answers(t, "Pin of the block itself", e, api.OK)
		p.pins = 1<<62 - 1
		answers(t, "P12.12: Pin", w.pin(x, p.off), api.OK)
		answers(t, "P12.12: Pin above MaxPins", w.pin(x, p.off), api.ErrPins)
		answers(t, "P12.13: Unpin", w.unpin(x, p.off), api.OK)
		answers(t, "P12.12: Pin", w.pin(x, p.off), api.OK)
	}
}

// rowOf: a map with so many retired ones, each with a pin, the latest first: the first is a small block.
func rowOf(t *testing.T, n int) (*world, *pair) {
	t.Helper()
	l := lay(t, descriptors[0])
	w := begin(t, 1<<17, l, ask(t, kinds[0].over(1)...))
	x := w.make(l, 5, 0)
	for key := 1; len(x.p.retired) < n; key++ {
		w.put(x, key, key)
		for _, p := range x.p.current() {
			if p.pins == 0 && len(p.fulls()) > 0 {
				w.pin(x, p.off)
			}
		}
	}
	w.quiet = true
	for _, p := range x.p.current() {
		if p.pins > 0 {
			w.unpin(x, p.off)
		}
	}
	w.quiet = false
	w.holds("P12.13: pins on tables that are not retired", x)
	return w, x
}

// TestRetiredInTheirOrder: the latest is the first; each of them is taken out of the row, wherever it is, and the others stay in their order.
func TestRetiredInTheirOrder(t *testing.T) {
	w, x := rowOf(t, 5)
	n := len(x.p.retired)
	for i := range n {
		for j := range n {
			if i == j {
				continue
			}
			v := w.under(w.a.Limit())
			y := v.maps[0]
			first, second := y.p.retired[i].off, y.p.retired[j].off
			live := v.a.Live()
			answers(t, "P12.13: Unpin", v.unpin(y, first), api.OK)
			answers(t, "P12.13: Unpin again", v.unpin(y, first), api.ErrBlock)
			answers(t, "P12.13: Unpin of another", v.unpin(y, second), api.OK)
			if v.a.Live() >= live || len(y.p.retired) != n-2 {
				t.Fatalf("P12.13: behind two, live is %d of %d, %d are retired", v.a.Live(), live, len(y.p.retired))
			}
		}
	}
	st, _ := x.m.Stat()
	if kind, _ := w.a.Load(x.p.retired[n-1].off, 8); kind != api.KindSmallRetired || st.Retired != x.p.retired[0].off {
		t.Errorf("P12.11: the first retired one has the kind %d, the latest is at %d", kind, st.Retired)
	}
	if kind, _ := w.a.Load(st.Retired, 8); kind != api.KindTableRetired {
		t.Errorf("P12.11: a retired table has the kind %d", kind)
	}
}

// TestSeveralPinsOnARetiredOne: it goes with the last of them; a further one may come meanwhile.
func TestSeveralPinsOnARetiredOne(t *testing.T) {
	w, x := rowOf(t, 3)
	off := x.p.retired[1].off
	for range 3 {
		w.pin(x, off)
	}
	for i := range 4 {
		if l, e := x.m.Retired(); !slices.Contains(l, off) || e != api.OK {
			t.Fatalf("P12.13: behind %d of 4 it is not among %v, error %d", i, l, e)
		}
		w.unpin(x, off)
	}
	if l, e := x.m.Retired(); slices.Contains(l, off) || len(l) != 2 || e != api.OK {
		t.Errorf("P12.13: behind the last it is among %v, error %d", l, e)
	}
}

// TestReplacedWithoutPins: a walk that has left in time keeps nothing.
func TestReplacedWithoutPins(t *testing.T) {
	for _, keys := range []int{8, 14} {
		l := lay(t, descriptors[0])
		w := begin(t, 1<<16, l, ask(t, kinds[0].over(1)...))
		x := w.make(l, 5, 0)
		w.fill(x, 1, keys)
		off := x.p.current()[0].off
		w.pin(x, off)
		w.unpin(x, off)
		w.fill(x, 1+keys, 1)
		if l, e := x.m.Retired(); len(l) != 0 || e != api.OK {
			t.Errorf("P12.11: Retired is %v, error %d", l, e)
		}
	}
}

// TestPinsStayWithTheirTable: a widened directory and the growth of another table leave them.
func TestPinsStayWithTheirTable(t *testing.T) {
	l := lay(t, descriptors[0])
	w := begin(t, 1<<17, l, ask(t, kinds[4].over(1)...))
	x := w.make(l, 5, 0)
	w.fill(x, 1, 20)
	off := x.p.entries[len(x.p.entries)-1].off
	w.pin(x, off)
	for key := range 40 {
		w.put(x, 21+key, key)
		p, _ := x.p.standing(off)
		if p == nil || p.pins != 1 {
			t.Fatal("P12.12: the pin is lost")
		}
	}
	w.unpin(x, off)
}

// TestPinsAreSeenInNoAnswer: two maps are given the same puts and deletes, one of them with walks on its blocks.
func TestPinsAreSeenInNoAnswer(t *testing.T) {
	for _, k := range kinds {
		l := lay(t, descriptors[0])
		w := begin(t, 1<<19, l, ask(t, k.over(1)...))
		x, y := w.make(l, 5, 0), w.make(l, 5, 0)
		for i := range 60 {
			w.put(x, 1+i*7%31, i)
			w.put(y, 1+i*7%31, i)
			if i%3 == 0 {
				w.delete(x, 1+i*5%31)
				w.delete(y, 1+i*5%31)
			}
			for _, p := range x.p.current() {
				if p.pins == 0 {
					w.pin(x, p.off)
				}
			}
			n, _ := x.m.Slots()
			m, _ := y.m.Slots()
			var one, other []string
			for k, v := range x.m.All() {
				one = append(one, k, v)
			}
			for k, v := range y.m.All() {
				other = append(other, k, v)
			}
			if n != m || !slices.Equal(one, other) {
				t.Fatalf("P12.11: %s: with walks the map has %d slots, without %d", k.name, n, m)
			}
		}
	}
}

// TestPinWhereNumbersWrapRound: offsets that are a block's but for their highest bit or their sign.
func TestPinWhereNumbersWrapRound(t *testing.T) {
	w, x := rowOf(t, 2)
	for _, off := range []int{math.MinInt, math.MaxInt, x.p.retired[0].off + math.MinInt, -x.p.retired[0].off} {
		w.refuses(x, "Pin", args{off: off}, api.ErrBlock)
		w.refuses(x, "Unpin", args{off: off}, api.ErrBlock)
	}
}
