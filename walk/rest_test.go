package walk_test

import (
	"iter"
	"testing"

	"larder/api"
)

// rest: a range over what Rest answered, left behind so many pairs (below 0: never): how many there were. The body is handed each pair.
func (w *world) rest(s *stroll, rest iter.Seq2[string, string], most int, body func(p api.Pair)) int {
	w.t.Helper()
	n := 0
	for k, v := range rest {
		// The walk has just taken this step, and nothing was changed since.
		want, yes := w.wanted(s)
		p := api.Pair{Key: k, Elem: v}
		if !yes || p != want {
			w.t.Fatalf("P13.5: Rest gives %q, want %q, %v", p, want, yes)
		}
		n++
		s.nexts++
		w.once("P13.5: Rest", s, p, true)
		w.holds("P13.5: within a range")
		if body != nil {
			body(p)
		}
		if n == most {
			return n
		}
	}
	if want, yes := w.wanted(s); yes {
		w.t.Fatalf("P13.5: Rest ends, want %q", want)
	}
	s.nexts++
	if !s.w.Done() {
		w.t.Fatal("P13.5: Rest has ended, and the walk is not done")
	}
	w.once("P13.5: Rest", s, api.Pair{}, false)
	w.holds("P13.5: behind a range")
	return n
}

// TestRest: P13.5: all pairs, in the order of Next; of a walk that is done nothing; never nil.
func TestRest(t *testing.T) {
	eachStage(t, func(w *world, x *pair) {
		s := w.open(x, 3, 5)
		rest := s.w.Rest()
		if rest == nil {
			w.t.Fatal("P13.5: Rest is nil")
		}
		if n := w.rest(s, rest, -1, nil); n != len(x.p.pairs) {
			w.t.Fatalf("P13.5: Rest gives %d pairs of %d", n, len(x.p.pairs))
		}
		if n := w.rest(s, rest, -1, nil) + w.rest(s, s.w.Rest(), -1, nil); n != 0 || s.w.Rest() == nil {
			w.t.Fatalf("P13.5: the Rest of a done walk gives %d pairs", n)
		}
		w.unpinned(x)
	})
}

// TestRestIsLazy: P13.5: to ask for Rest takes no step: only a range does.
func TestRestIsLazy(t *testing.T) {
	l := lay(t, descriptors[0])
	w := begin(t, 1<<18, l, ask(t))
	x := w.make(l, 7, 0)
	w.fill(x, 1, 5)
	s := w.open(x, 0, 0)
	was := look(t, w.a)
	s.w.Rest()
	like(t, "P13.5: Rest alone", w.a, was)
	w.next(s)
	was = look(t, w.a)
	s.w.Rest()
	like(t, "P13.5: Rest alone", w.a, was)
	w.through(s)
}

// TestRestLeft: P13.5: left early at each pair, with the walk's pin where it is; gone on with by Next, by the same Rest, by another one.
func TestRestLeft(t *testing.T) {
	for _, keys := range []int{3, 8, 9, 30} {
		for at := 1; at <= keys; at++ {
			for _, on := range []string{"Next", "the same Rest", "another Rest", "both", "nothing"} {
				l := lay(t, descriptors[0])
				w := begin(t, 1<<18, l, ask(t))
				w.brief = true
				x := w.make(l, 7, 0)
				w.fill(x, 1, keys)
				s := w.open(x, uint64(at), uint64(at))
				rest := s.w.Rest()
				n := w.rest(s, rest, at, nil)
				if s.w.Done() || s.on == nil {
					t.Fatal("P13.5: behind a loop that was left a walk is done")
				}
				switch on {
				case "Next":
					n += len(w.through(s))
				case "the same Rest":
					n += w.rest(s, rest, -1, nil)
				case "another Rest":
					n += w.rest(s, s.w.Rest(), -1, nil)
				case "both":
					for !s.done {
						if _, yes := w.next(s); yes {
							n++
						}
						n += w.rest(s, rest, 2, nil)
						n += w.rest(s, s.w.Rest(), 1, nil)
					}
				case "nothing":
					w.close(s)
					n = keys
				}
				if n != keys {
					t.Fatalf("P13.5: left at %d, gone on with %s: %d pairs, want %d", at, on, n, keys)
				}
				w.unpinned(x)
			}
		}
	}
}

// TestRestWithin: P13.5: a range within the body of another one, over the same answer and over another: both go on where the walk is.
func TestRestWithin(t *testing.T) {
	for _, keys := range []int{1, 2, 7, 8, 9, 30} {
		for inner := 1; inner < 6; inner++ {
			l := lay(t, descriptors[0])
			w := begin(t, 1<<18, l, ask(t))
			w.brief = true
			x := w.make(l, 7, 0)
			w.fill(x, 1, keys)
			s := w.open(x, 3, 3)
			rest := s.w.Rest()
			n := 0
			outer := w.rest(s, rest, -1, func(api.Pair) {
				n += w.rest(s, rest, inner, nil)
				n += w.rest(s, s.w.Rest(), 1, nil)
				w.next(s)
			})
			if len(s.yielded) != keys || n+outer > keys {
				t.Fatalf("P13.5: %d pairs of %d, %d of them within", len(s.yielded), keys, n)
			}
			w.unpinned(x)
		}
	}
}

// TestRestBodies: P13.5: bodies that put, delete, clear and go on with other walks.
func TestRestBodies(t *testing.T) {
	bodies := map[string]func(w *world, x *pair, n int){
		"puts new keys":      func(w *world, x *pair, n int) { w.put(x, 70+n, n) },
		"puts many keys":     func(w *world, x *pair, n int) { w.fill(x, 70+10*n, 10) },
		"replaces elems":     func(w *world, x *pair, n int) { w.put(x, 1+n*7%30, n) },
		"deletes":            func(w *world, x *pair, n int) { w.delete(x, 1+n*7%30) },
		"deletes and puts":   func(w *world, x *pair, n int) { w.delete(x, 1+n*7%30); w.put(x, 1+n*7%30, n); w.put(x, 70+n, n) },
		"opens other walks":  func(w *world, x *pair, n int) { w.next(w.open(x, uint64(n), uint64(n))); w.put(x, 70+n, n) },
		"closes other walks": func(w *world, x *pair, n int) { s := w.open(x, 1, 1); w.next(s); w.put(x, 70+n, n); w.close(s) },
	}
	for name, body := range bodies {
		for _, keys := range []int{1, 8, 9, 30} {
			t.Run(name, func(t *testing.T) {
				l := lay(t, descriptors[0])
				w := begin(t, 1<<18, l, ask(t))
				w.brief = true
				x := w.make(l, 7, 0)
				w.fill(x, 1, keys)
				n := 0
				w.rest(w.open(x, 3, 3), w.walks[0].w.Rest(), -1, func(api.Pair) {
					n++
					if n < 15 {
						body(w, x, n)
					}
				})
				for len(w.walks) > 0 {
					w.close(w.walks[0])
				}
				w.unpinned(x)
			})
		}
	}
}

// TestRestEnded: P13.5: a body that clears or releases its map, or closes its walk, is the last one.
func TestRestEnded(t *testing.T) {
	for _, keys := range []int{2, 8, 9, 30} {
		for at := 1; at < keys; at++ {
			for _, by := range []string{"Clear", "Close", "Release"} {
				l := lay(t, descriptors[0])
				w := begin(t, 1<<18, l, ask(t))
				w.brief = true
				x := w.make(l, 7, 0)
				w.fill(x, 1, keys)
				s := w.open(x, 3, 3)
				n := 0
				for range s.w.Rest() {
					w.wanted(s)
					if n++; n != at {
						continue
					}
					switch by {
					case "Clear":
						w.clear(x, 5)
						w.fill(x, 1, keys)
					case "Close":
						w.close(s)
					case "Release":
						w.release(x)
					}
				}
				if n != at || s.w.Done() != (by != "Release") {
					t.Fatalf("P13.5: behind a %s at pair %d Rest gives %d; done: %v", by, at, n, s.w.Done())
				}
				if by == "Clear" {
					w.wanted(s)
				}
				w.holds("P13.5: behind a range that was ended")
			}
		}
	}
}
