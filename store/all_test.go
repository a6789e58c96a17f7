package store_test

import (
	"fmt"
	"iter"
	"testing"

	"larder/api"
	"larder/small"
	"larder/swiss"
	"larder/table"
)

// pinsOf: the sum of all pins of a map, and how many retired ones it has.
func pinsOf(m swiss.Map) (pins, retired int) {
	if s, yes, _ := m.Small(); yes {
		st, _ := s.Stat()
		pins += st.Pins
	}
	if d, yes, _ := m.Dir(); yes {
		for _, off := range d.Tables() {
			st, _ := table.At(m.Arena(), m.Layout(), off).Stat()
			pins += st.Pins
		}
	}
	offs, _ := m.Retired()
	for _, off := range offs {
		st, _ := small.At(m.Arena(), m.Layout(), off).Stat() // the words of both headers lie alike
		pins += st.Pins
	}
	return pins, len(offs)
}

// free: nothing of the map is pinned. (That the store's bytes are those of the row's maps has been told.)
func (w *world) free(h int) {
	w.t.Helper()
	if pins, retired := pinsOf(w.item(h).m); pins != 0 || retired != 0 {
		w.t.Fatalf("P14.9: no walk is under way, and there are %d pins and %d retired ones", pins, retired)
	}
}

// eachMap: maps of several sizes and hashes (the handle 1), each in a world of its own, beside another map (the handle 2).
func eachMap(t *testing.T, each func(w *world, keys int)) {
	t.Helper()
	for _, k := range kinds {
		for _, keys := range []int{0, 1, 5, 8, 9, 14, 30} {
			t.Run(fmt.Sprint(k.name, ", ", keys, " keys"), func(t *testing.T) {
				t.Parallel()
				w := start(t, 1<<19, k.over()...)
				w.do(api.Cmd{Op: api.OpMake, U: 7, Fields: chapter})
				w.do(api.Cmd{Op: api.OpMake, U: 8, Fields: scripted[2]})
				w.fill(1, 1, 1+keys)
				w.fill(2, 1, 13)
				each(w, keys)
			})
		}
	}
}

// TestAll: P14.9: all pairs, as a walk with the draws 0 and 0 yields them, again and again.
func TestAll(t *testing.T) {
	eachMap(t, func(w *world, keys int) {
		all := w.all(1)
		for range 3 {
			if n := w.rangedOver(1, all, -1, nil); n != keys {
				w.t.Fatalf("P14.9: All gives %d pairs of %d", n, keys)
			}
			w.free(1)
		}
		w.do(api.Cmd{Op: api.OpPut, H: 1, Key: text(1, 40), Elem: "y"})
		w.do(api.Cmd{Op: api.OpDelete, H: 1, Key: text(1, 2)})
		w.rangedOver(1, all, -1, nil)
		w.free(1)
	})
}

// TestAllLeft: P14.9: left at each pair, nothing is pinned behind it, and no pair is asked for that is not given.
func TestAllLeft(t *testing.T) {
	eachMap(t, func(w *world, keys int) {
		all := w.all(1)
		for at := 1; at <= keys; at++ {
			if n := w.rangedOver(1, all, at, nil); n != at {
				w.t.Fatalf("P14.9: left at pair %d All gives %d", at, n)
			}
			w.free(1)
			y, n := w.rangeBegins(1), 0
			all(func(k, v string) bool {
				if n++; n <= at {
					w.rangeGives(y, api.Pair{Key: k, Elem: v})
				}
				return n < at
			})
			if n != at {
				w.t.Fatalf("P14.9: behind a body that has answered false All gives a pair")
			}
			w.rangeEnds(y, true)
			w.free(1)
		}
	})
}

// TestAllLeftByPanic: a body that panics leaves the loop as one that breaks does, and the lock is free.
func TestAllLeftByPanic(t *testing.T) {
	eachMap(t, func(w *world, keys int) {
		for at := 1; at <= min(keys, 10); at++ {
			y, n := w.rangeBegins(1), 0
			func() {
				defer func() { _ = recover() }()
				for k, v := range w.all(1) {
					w.rangeGives(y, api.Pair{Key: k, Elem: v})
					if n++; n == at {
						panic("left")
					}
				}
			}()
			w.rangeEnds(y, true)
			w.free(1)
		}
	})
}

// TestAllBodies: P14.9: bodies that do all that a store can be asked for.
func TestAllBodies(t *testing.T) {
	put := func(w *world, h, key, elem int) {
		w.do(api.Cmd{Op: api.OpPut, H: h, Key: text(1, key), Elem: text(1, elem)})
	}
	bodies := map[string]func(w *world, p api.Pair, n int){
		"reads": func(w *world, p api.Pair, n int) {
			for _, op := range []int{api.OpGet, api.OpProbes, api.OpLen, api.OpSlots, api.OpLive} {
				w.do(api.Cmd{Op: op, H: 1, Key: p.Key})
			}
		},
		"puts new keys":    func(w *world, p api.Pair, n int) { put(w, 1, 40+n, n) },
		"puts many keys":   func(w *world, p api.Pair, n int) { w.fill(1, 40+12*n, 52+12*n) },
		"replaces elems":   func(w *world, p api.Pair, n int) { put(w, 1, 1+n*7%30, 100+n) },
		"deletes its key":  func(w *world, p api.Pair, n int) { w.do(api.Cmd{Op: api.OpDelete, H: 1, Key: p.Key}) },
		"deletes others":   func(w *world, p api.Pair, n int) { w.do(api.Cmd{Op: api.OpDelete, H: 1, Key: text(1, 1+n*7%30)}) },
		"clears":           func(w *world, p api.Pair, n int) { w.do(api.Cmd{Op: api.OpClear, H: 1, U: 5}) },
		"clears and fills": func(w *world, p api.Pair, n int) { w.do(api.Cmd{Op: api.OpClear, H: 1, U: 5}); w.fill(1, 1, 20) },
		"makes and clones": func(w *world, p api.Pair, n int) {
			w.do(api.Cmd{Op: api.OpMake, Fields: chapter})
			w.do(api.Cmd{Op: api.OpClone, H: 1})
		},
		"releases others": func(w *world, p api.Pair, n int) { w.do(api.Cmd{Op: api.OpRelease, Hs: []int{2}}) },
		"is refused":      func(w *world, p api.Pair, n int) { put(w, 99, 1, 1); w.do(api.Cmd{Op: api.OpRelease, Hs: []int{1, 1}}) },
		"opens and goes on": func(w *world, p api.Pair, n int) {
			w.do(api.Cmd{Op: api.OpOpen, H: 1, U: 3, V: 9})
			put(w, 1, 60+n, n)
			w.do(api.Cmd{Op: api.OpNext, H: w.next - 1})
		},
		"opens and releases": func(w *world, p api.Pair, n int) {
			h := w.do(api.Cmd{Op: api.OpOpen, H: 1, U: 3, V: 9}).N
			w.do(api.Cmd{Op: api.OpNext, H: h})
			put(w, 1, 60+n, n)
			w.do(api.Cmd{Op: api.OpRelease, Hs: []int{h}})
		},
		"ranges again":         func(w *world, p api.Pair, n int) { w.ranged(1, -1, nil); w.ranged(2, 3, nil) },
		"ranges again, leaves": func(w *world, p api.Pair, n int) { w.ranged(1, n, nil); put(w, 1, 60+n, n) },
		"ranges again in it": func(w *world, p api.Pair, n int) {
			w.ranged(1, 2, func(p api.Pair, m int) { w.ranged(1, -1, nil); put(w, 1, 60+n, m) })
		},
		"clears in it": func(w *world, p api.Pair, n int) {
			w.ranged(1, -1, func(p api.Pair, m int) { w.do(api.Cmd{Op: api.OpClear, H: 1, U: 9}) })
		},
	}
	for name, body := range bodies {
		t.Run(name, func(t *testing.T) {
			eachMap(t, func(w *world, keys int) {
				w.ranged(1, -1, func(p api.Pair, n int) {
					if n < 7 {
						body(w, p, n)
					}
				})
				for _, x := range w.live(isWalk) {
					w.do(api.Cmd{Op: api.OpRelease, Hs: []int{x.h}})
				}
				w.free(1)
			})
		})
	}
}

// TestAllReleased: P14.9: the body releases the map at each pair: the range ends, whether the loop is left there or goes on. Another map takes just the blocks of the released one, and a walk stands where the range's stood: its pin stays.
func TestAllReleased(t *testing.T) {
	for _, left := range []bool{false, true} {
		eachMap(t, func(w *world, keys int) {
			if keys == 0 {
				return
			}
			for at := 1; at <= keys; at++ {
				h := w.do(api.Cmd{Op: api.OpClone, H: 1}).N
				all := w.all(h)
				most := -1
				if left {
					most = at
				}
				n := w.rangedOver(h, all, most, func(p api.Pair, n int) {
					if n != at {
						return
					}
					w.do(api.Cmd{Op: api.OpRelease, Hs: []int{h}})
					other := w.do(api.Cmd{Op: api.OpClone, H: 1}).N
					if w.item(other).m.Off() != w.item(h).m.Off() {
						w.t.Fatal("the other map lies elsewhere")
					}
					w.do(api.Cmd{Op: api.OpOpen, H: other})
					for range at {
						w.do(api.Cmd{Op: api.OpNext, H: other + 1})
					}
				})
				if n != at || w.rangedOver(h, all, -1, nil) != 0 {
					w.t.Fatalf("P14.9: the map is released at pair %d, and All gives %d", at, n)
				}
				other := w.next - 2
				if pins, _ := pinsOf(w.item(other).m); pins != 1 {
					w.t.Fatalf("the walk over the other map has %d pins", pins)
				}
				w.do(api.Cmd{Op: api.OpRelease, Hs: []int{other + 1}})
				w.free(other)
				w.do(api.Cmd{Op: api.OpRelease, Hs: []int{other}})
			}
			w.free(1)
		})
	}
}

// TestAllOfWhatIsNoMap: P14.9: handles that are no live map's as the range begins; what counts is that moment, not that of All.
func TestAllOfWhatIsNoMap(t *testing.T) {
	w := crowd(t)
	for _, h := range []int{0, -1, 3, 4, 6, 9, 10, 11, 12, 77, 1 << 62, -1 << 63, 1<<63 - 1} {
		if n := w.ranged(h, -1, nil); n != 0 {
			t.Fatalf("P14.9: All(%d) gives %d pairs", h, n)
		}
	}
	early := w.all(12)
	gone := w.all(2)
	w.do(api.Cmd{Op: api.OpClone, H: 5})
	if n := w.rangedOver(12, early, -1, nil); n != 40 {
		t.Fatalf("P14.9: All, asked for ahead of the map's make, gives %d pairs of 40", n)
	}
	if n := w.rangedOver(2, gone, -1, nil); n != 5 {
		t.Fatalf("P14.9: All(2) gives %d pairs of 5", n)
	}
	w.do(api.Cmd{Op: api.OpRelease, Hs: []int{2}})
	w.do(api.Cmd{Op: api.OpMake, Fields: chapter})
	w.fill(13, 0, 5)
	if n := w.rangedOver(2, gone, -1, nil); n != 0 {
		t.Fatalf("P14.9: a map is dead as the range begins, and All gives %d pairs", n)
	}
}

// TestAllInTurns: P14.9: several ranges over one answer, each from its beginning, with changes between their steps.
func TestAllInTurns(t *testing.T) {
	eachMap(t, func(w *world, keys int) {
		all := w.all(1)
		type walker struct {
			y    *item
			next func() (string, string, bool)
			stop func()
		}
		var list []*walker
		for i := range 60 {
			if i%6 == 0 {
				v := &walker{y: w.rangeBegins(1)}
				v.next, v.stop = iter.Pull2(all)
				list = append(list, v)
				w.turn(v.y, v.next)
			}
			for j, v := range list {
				switch {
				case v.y == nil:
				case i%7 == 6 && j%3 == 2:
					v.stop()
					w.rangeEnds(v.y, true)
					v.y = nil
				case !w.turn(v.y, v.next):
					v.y = nil
				}
			}
			w.do(api.Cmd{Op: api.OpPut, H: 1, Key: text(1, 1+i), Elem: "z"})
			w.do(api.Cmd{Op: api.OpDelete, H: 1, Key: text(1, 1+i*3%60)})
		}
		for _, v := range list {
			v.stop()
			if v.y != nil {
				w.rangeEnds(v.y, true)
			}
		}
		w.free(1)
	})
}

// turn: one step of a range: is there a pair?
func (w *world) turn(y *item, next func() (string, string, bool)) bool {
	w.t.Helper()
	k, v, yes := next()
	if !yes {
		w.rangeEnds(y, false)
		return false
	}
	w.rangeGives(y, api.Pair{Key: k, Elem: v})
	return true
}
