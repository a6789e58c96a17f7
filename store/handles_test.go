package store_test

import (
	"fmt"
	"math"
	"testing"

	"larder/api"
	"larder/store"
)

// asked: a handle, and what is wrong with it as a map's and as a walk's.
type asked struct {
	name         string
	h            int
	asMap, walks api.Errno
}

// several: a store with a map that holds three letters (1), a walk over it (2), a dead map (3) with a dead walk (4), a walk that was released (5), a done walk (6); the next handle is 7.
func several(t *testing.T) (*store.Store, []asked) {
	t.Helper()
	s := begin(t, 1<<16)
	made(t, s, "abc")
	opened(t, s, 1, 1)
	made(t, s, "abc")
	opened(t, s, 3, 1)
	opened(t, s, 1, 2)
	opened(t, s, 1, 4)
	answers(t, "P14.6: Release", s.Release(5, 3), api.OK)
	return s, []asked{
		{"0", 0, api.ErrHandle, api.ErrHandle},
		{"-1", -1, api.ErrHandle, api.ErrHandle},
		{"the least int", math.MinInt, api.ErrHandle, api.ErrHandle},
		{"the next handle", 7, api.ErrHandle, api.ErrHandle},
		{"one not given yet", 8, api.ErrHandle, api.ErrHandle},
		{"the greatest int", math.MaxInt, api.ErrHandle, api.ErrHandle},
		{"a dead map's", 3, api.ErrGone, api.ErrGone},
		{"a walk's that is dead with its map", 4, api.ErrGone, api.ErrGone},
		{"a dead walk's", 5, api.ErrGone, api.ErrGone},
		{"a map's", 1, api.OK, api.ErrKind},
		{"a walk's", 2, api.ErrKind, api.OK},
		{"a done walk's", 6, api.ErrKind, api.OK},
	}
}

// TestHandles: P14.3, P14.4, P14.5: the error of a handle comes ahead of every other, and the call changes nothing.
func TestHandles(t *testing.T) {
	ops := []int{api.OpGet, api.OpPut, api.OpDelete, api.OpLen, api.OpClear, api.OpProbes, api.OpSlots, api.OpClone, api.OpOpen, api.OpNext}
	for _, op := range ops {
		for _, key := range []string{"a", "", "ab", text(300, 1)} {
			for _, elem := range []string{"x", "", "xy"} {
				s, list := several(t)
				for _, x := range list {
					want := x.asMap
					if op == api.OpNext {
						want = x.walks
					}
					if want == api.OK {
						continue
					}
					was := stateOf(t, s)
					what := fmt.Sprintf("%s: %s of the handle %s, key %.4q, elem %q", promises[op], names[op], x.name, key, elem)
					a := play(s, api.Cmd{Op: op, H: x.h, Key: key, Elem: elem, U: 9, V: 9})
					if a != (api.Answer{Op: op, Err: want}) {
						t.Fatalf("%s: %#v, want error %d", what, a, want)
					}
					unchanged(t, what, s, was)
				}
			}
		}
	}
}

// TestWrongWidths: P14.3: of a live map; the key's width is looked at first, and a put of a wrong width needs no memory.
func TestWrongWidths(t *testing.T) {
	for _, fields := range descriptors {
		l := lay(t, fields)
		w := start(t, 1<<16)
		w.do(api.Cmd{Op: api.OpMake, Fields: fields})
		for n := range 12 {
			w.do(api.Cmd{Op: api.OpPut, H: 1, Key: text(l.Key, n), Elem: text(l.Elem, n)})
			for _, key := range []int{0, l.Key - 1, l.Key + 1, 300} {
				for _, op := range []int{api.OpGet, api.OpDelete, api.OpProbes} {
					wrong(w, api.Cmd{Op: op, H: 1, Key: text(key, n)}, api.ErrKeyWidth)
				}
				for _, elem := range []int{l.Elem, l.Elem + 1, 300} {
					wrong(w, api.Cmd{Op: api.OpPut, H: 1, Key: text(key, n), Elem: text(elem, n)}, api.ErrKeyWidth)
				}
			}
			for _, elem := range []int{0, l.Elem - 1, l.Elem + 1, 300} {
				if elem < 0 || elem == l.Elem {
					continue
				}
				wrong(w, api.Cmd{Op: api.OpPut, H: 1, Key: text(l.Key, n+1), Elem: text(elem, n)}, api.ErrElemWidth)
			}
		}
	}
}

func wrong(w *world, c api.Cmd, want api.Errno) {
	w.t.Helper()
	if a := w.do(c); a != (api.Answer{Op: c.Op, Err: want}) {
		w.t.Fatalf("%s: %#v: %#v, want error %d", promises[c.Op], c, a, want)
	}
}

// TestNextBehindTheEnd: P14.5: the zero pair and false, again and again; the walk is not dead for that.
func TestNextBehindTheEnd(t *testing.T) {
	for _, keys := range []int{0, 1, 8, 9, 40} {
		w := start(t, 1<<18)
		w.do(api.Cmd{Op: api.OpMake, U: 3, Fields: chapter})
		for i := range keys {
			w.do(api.Cmd{Op: api.OpPut, H: 1, Key: text(1, i), Elem: "x"})
		}
		w.do(api.Cmd{Op: api.OpOpen, H: 1, U: 11, V: 13})
		for i := range keys + 5 {
			a := w.do(api.Cmd{Op: api.OpNext, H: 2})
			if i < keys != a.Yes || a.Err != api.OK {
				t.Fatalf("P14.5: Next number %d of %d keys: %#v", i+1, keys, a)
			}
			if i >= keys && a != (api.Answer{Op: api.OpNext}) {
				t.Fatalf("P14.5: behind the end Next = %#v", a)
			}
		}
		w.do(api.Cmd{Op: api.OpPut, H: 1, Key: text(1, 70), Elem: "y"})
		w.do(api.Cmd{Op: api.OpNext, H: 2})
		w.do(api.Cmd{Op: api.OpClear, H: 1, U: 5})
		w.do(api.Cmd{Op: api.OpNext, H: 2})
		wrong(w, api.Cmd{Op: api.OpGet, H: 2, Key: "a"}, api.ErrKind)
		w.do(api.Cmd{Op: api.OpRelease, Hs: []int{2}})
		wrong(w, api.Cmd{Op: api.OpNext, H: 2}, api.ErrGone)
	}
}

// TestOpenTakesNoMemory: P14.5: where the limit is reached walks are opened all the same, and the draws are those that were given.
func TestOpenTakesNoMemory(t *testing.T) {
	w := start(t, 64+192)
	w.do(api.Cmd{Op: api.OpMake, U: 3, Fields: chapter})
	for i := range 9 {
		w.do(api.Cmd{Op: api.OpPut, H: 1, Key: text(1, i), Elem: "x"})
	}
	if w.a.Live() != w.a.Limit() {
		t.Fatal("there is memory left")
	}
	for i := range 8 {
		c := api.Cmd{Op: api.OpOpen, H: 1, U: uint64(i), V: math.MaxUint64 - uint64(i)}
		if a := w.do(c); a.N != 2+i {
			t.Fatalf("P14.5: Open = %d, error %d, want %d", a.N, a.Err, 2+i)
		}
		if a := w.do(api.Cmd{Op: api.OpNext, H: 2 + i}); a.Key != text(1, 7-i) {
			t.Fatalf("P14.5: with the draw %d the first pair is %q, want %q", c.V, a.Key, text(1, 7-i))
		}
	}
}
