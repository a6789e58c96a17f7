package walk_test

import (
	"testing"

	"larder/api"
)

// stage: what a map may be when a walk is opened over it.
type stage struct {
	name string
	make func(w *world, l api.Layout) *pair
}

// made: a map with that hint, and the keys 1 to n.
func made(hint, n int) func(w *world, l api.Layout) *pair {
	return func(w *world, l api.Layout) *pair {
		x := w.make(l, 7, hint)
		w.fill(x, 1, n)
		return x
	}
}

// thinned: the same, and then without every third key.
func thinned(hint, n int) func(w *world, l api.Layout) *pair {
	return func(w *world, l api.Layout) *pair {
		x := made(hint, n)(w, l)
		for i := 1; i <= n; i += 3 {
			w.delete(x, i)
		}
		return x
	}
}

// emptied: the same, and then without keys.
func emptied(hint, n int) func(w *world, l api.Layout) *pair {
	return func(w *world, l api.Layout) *pair {
		x := made(hint, n)(w, l)
		for i := 1; i <= n; i++ {
			w.delete(x, i)
		}
		return x
	}
}

var stages = []stage{
	{"a bare map", made(0, 0)},
	{"a cleared map", func(w *world, l api.Layout) *pair {
		x := made(0, 12)(w, l)
		w.clear(x, 8)
		return x
	}},
	{"a small map of one key", made(0, 1)},
	{"a small map of three keys", made(0, 3)},
	{"a small map of eight keys", made(0, 8)},
	{"a small map with gaps", thinned(0, 8)},
	{"a small map without keys", emptied(0, 3)},
	{"a small map behind a clear", func(w *world, l api.Layout) *pair {
		x := made(0, 12)(w, l)
		w.clear(x, 8)
		w.clear(x, 9)
		w.fill(x, 3, 5)
		return x
	}},
	{"a wide map without keys", made(9, 0)},
	{"a wide map that was emptied", emptied(0, 20)},
	{"a wide map of one key", made(9, 1)},
	{"a wide map of nine keys", made(0, 9)},
	{"a wide map of two tables", made(15, 12)},
	{"a wide map of eight tables", made(100, 40)},
	{"a wide map that grew", made(0, 50)},
	{"a wide map with gaps", thinned(0, 50)},
	{"a wide map of sixty-four tables", made(800, 60)},
}

// eachStage: each stage in a world of its own, with all kinds of hashes, and several layouts among them.
func eachStage(t *testing.T, try func(w *world, x *pair)) {
	t.Helper()
	lays := [][5]int{{1, 1, 1, 1, 16}, {1, 0, 1, 1, 64}, {5, 4, 1, 4, 32}}
	for i, k := range kinds {
		for n, g := range stages {
			t.Run(k.name+", "+g.name, func(t *testing.T) {
				t.Parallel()
				l := lay(t, lays[(i+n)%len(lays)])
				w := begin(t, 1<<18, l, ask(t, k.over(l.Key)...))
				w.brief = true
				try(w, g.make(w, l))
			})
		}
	}
}
