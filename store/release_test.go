package store_test

import (
	"fmt"
	"math"
	"slices"
	"testing"

	"larder/api"
)

// crowd: maps and walks: 1 a bare map, 2 a small one with the walks 3 and 4, 5 a wide one with the walks 6, 7 and 8 (which stand on retired tables, and the last on nothing), 9 a dead map with the dead walk 10, 11 a dead walk.
func crowd(t *testing.T) *world {
	t.Helper()
	w := start(t, 1<<18)
	w.quiet = true
	open := func(h, steps int) {
		a := w.do(api.Cmd{Op: api.OpOpen, H: h, U: uint64(steps), V: 3})
		for range steps {
			w.do(api.Cmd{Op: api.OpNext, H: a.N})
		}
	}
	w.do(api.Cmd{Op: api.OpMake, U: 1, Fields: chapter})
	w.do(api.Cmd{Op: api.OpMake, U: 2, Fields: chapter})
	w.fill(2, 0, 5)
	open(2, 2)
	open(2, 0)
	w.do(api.Cmd{Op: api.OpMake, U: 5, Fields: chapter})
	w.fill(5, 0, 8)
	open(5, 1)
	w.fill(5, 8, 14)
	open(5, 2)
	w.fill(5, 14, 40)
	open(5, 0)
	w.do(api.Cmd{Op: api.OpMake, U: 9, Fields: chapter})
	w.fill(9, 0, 3)
	open(9, 1)
	open(2, 1)
	w.quiet = false
	w.do(api.Cmd{Op: api.OpRelease, Hs: []int{11, 9}})
	return w
}

// goes: all that can still be asked is asked, and answers what it must.
func (w *world) goes() {
	w.t.Helper()
	for h := range w.next + 1 {
		for i := range 3 {
			w.do(api.Cmd{Op: api.OpNext, H: h})
			w.do(api.Cmd{Op: api.OpPut, H: h, Key: text(1, 50+i), Elem: "z"})
			w.do(api.Cmd{Op: api.OpGet, H: h, Key: text(1, i)})
		}
		w.do(api.Cmd{Op: api.OpOpen, H: h, U: 1, V: 1})
		w.do(api.Cmd{Op: api.OpMake, Fields: chapter})
	}
}

// TestReleaseLists: P14.6: every list of up to three handles of the crowd: which error comes first, and that with one nothing has changed; without one, what is dead and what goes on.
func TestReleaseLists(t *testing.T) {
	hs := []int{0, 1, 2, 3, 4, 5, 6, 7, 9, 10, 11, 12, math.MaxInt}
	t.Run("lists", func(t *testing.T) {
		for _, first := range append(hs, -1) {
			t.Run(fmt.Sprint(first), func(t *testing.T) {
				t.Parallel()
				try := func(list ...int) {
					w := crowd(t)
					was := stateOf(t, w.stores[0])
					a := w.do(api.Cmd{Op: api.OpRelease, Hs: list})
					if a.Err != api.OK {
						unchanged(t, fmt.Sprint("P14.6: Release of ", list), w.stores[0], was)
					}
					if len(list) < 3 {
						w.goes()
					}
				}
				try(first)
				for _, second := range hs {
					try(first, second)
					for _, third := range hs {
						try(first, second, third)
					}
				}
			})
		}
	})
}

func TestReleaseNothing(t *testing.T) {
	w := crowd(t)
	was := stateOf(t, w.stores[0])
	w.do(api.Cmd{Op: api.OpRelease})
	answers(t, "P14.6: Release()", w.stores[0].Release(), api.OK)
	unchanged(t, "P14.6: Release()", w.stores[0], was)
}

// TestReleaseTogether: P14.6: a map and its walks, in every order, in one call and in several; no byte is live when all is released.
func TestReleaseTogether(t *testing.T) {
	hs := []int{2, 3, 4, 5, 6, 7}
	orders(hs, func(list []int) {
		w := crowd(t)
		w.do(api.Cmd{Op: api.OpRelease, Hs: list})
		w.do(api.Cmd{Op: api.OpRelease, Hs: []int{1}})
		if n := w.stores[0].Live(); n != 0 || len(w.stores[0].Handles()) != 0 {
			t.Fatalf("P14.6: Release of %v and the rest: %d bytes are live", list, n)
		}
	})
	orders([]int{1, 2, 4, 5, 6}, func(list []int) {
		w := crowd(t)
		for i := 0; i < len(list); i += 2 {
			w.do(api.Cmd{Op: api.OpRelease, Hs: list[i:min(i+2, len(list))]})
		}
		for _, h := range w.wantHandles() {
			w.do(api.Cmd{Op: api.OpRelease, Hs: []int{h}})
		}
		if n := w.stores[0].Live(); n != 0 {
			t.Fatalf("P14.6: Release of %v by twos: %d bytes are live", list, n)
		}
	})
}

// orders: each order of the list.
func orders(list []int, each func(list []int)) {
	var more func(head, rest []int)
	more = func(head, rest []int) {
		if len(rest) == 0 {
			each(head)
		}
		for i, h := range rest {
			more(append(slices.Clone(head), h), slices.Delete(slices.Clone(rest), i, i+1))
		}
	}
	more(nil, list)
}

// TestReleasedWalksStandOnNothing: P14.6: what walks alone kept is free, and no pin is left.
func TestReleasedWalksStandOnNothing(t *testing.T) {
	orders([]int{6, 7, 8}, func(list []int) {
		w := crowd(t)
		m := w.item(5).m
		if l, _ := m.Retired(); len(l) == 0 {
			t.Fatal("the crowd is too tame: nothing is retired")
		}
		for _, h := range list {
			w.do(api.Cmd{Op: api.OpRelease, Hs: []int{h}})
		}
		if pins, retired := pinsOf(m); pins != 0 || retired != 0 {
			t.Fatalf("P14.6: all walks are released, and there are %d pins and %d retired ones", pins, retired)
		}
		w.do(api.Cmd{Op: api.OpLen, H: 5})
	})
}

// TestReleasedHandlesStayDead: a header's block is taken by the next map, and the walks of the one that was there have nothing to do with it.
func TestReleasedHandlesStayDead(t *testing.T) {
	w := start(t, 1<<16)
	for n := range 20 {
		h := w.do(api.Cmd{Op: api.OpMake, U: uint64(n), Fields: chapter}).N
		if off := w.item(h).m.Off(); off != 16 {
			t.Fatalf("the map's header lies at %d", off)
		}
		for i := range 5 {
			w.do(api.Cmd{Op: api.OpPut, H: h, Key: text(1, i), Elem: "x"})
		}
		y := w.do(api.Cmd{Op: api.OpOpen, H: h}).N
		w.do(api.Cmd{Op: api.OpNext, H: y})
		for _, x := range w.row {
			if x.h != h {
				w.do(api.Cmd{Op: api.OpNext, H: x.h})
			}
			if x.h < h {
				wrong(w, api.Cmd{Op: api.OpGet, H: x.h, Key: "a"}, api.ErrGone)
				wrong(w, api.Cmd{Op: api.OpRelease, Hs: []int{y, x.h, h}}, api.ErrGone)
			}
		}
		w.do(api.Cmd{Op: api.OpRelease, Hs: []int{h}})
	}
}

// TestReleaseMany: P14.6: so many handles in one call that it must not look at all of them for each.
func TestReleaseMany(t *testing.T) {
	s := begin(t, 1<<20)
	var hs []int
	for range 300 {
		m := made(t, s, "ab")
		hs = append(hs, m)
		for range 100 {
			hs = append(hs, opened(t, s, m, 1))
		}
	}
	slices.Reverse(hs)
	answers(t, "P14.6: Release of many, the first twice", s.Release(append(hs, hs[0])...), api.ErrAgain)
	answers(t, "P14.6: Release of many, and one that was not given", s.Release(append(hs, hs[0], len(hs)+1)...), api.ErrHandle)
	if !slices.IsSortedFunc(hs, func(a, b int) int { return b - a }) || len(s.Handles()) != len(hs) {
		t.Fatal("P14.6: a Release that was refused has changed something")
	}
	answers(t, "P14.6: Release of many", s.Release(hs...), api.OK)
	if s.Live() != 0 || len(s.Handles()) != 0 {
		t.Errorf("P14.6: behind a Release of all: %d bytes are live, the handles are %v", s.Live(), s.Handles())
	}
}
