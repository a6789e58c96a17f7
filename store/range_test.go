package store_test

import (
	"iter"
	"slices"

	"larder/api"
)

// ranged: a range over All, at most so many pairs (below 0: all): how many there were. Each pair is held against what a walk of the row's own yields, and then the body is done, if there is one.
func (w *world) ranged(h, most int, body func(p api.Pair, n int)) int {
	w.t.Helper()
	return w.rangedOver(h, w.all(h), most, body)
}

// all: what the store's All answers.
func (w *world) all(h int) iter.Seq2[string, string] {
	w.t.Helper()
	if len(w.stores) != 1 {
		w.t.Fatal("a body would be done once for each store")
	}
	all := w.stores[0].All(h)
	if all == nil {
		w.t.Fatalf("P14.9: All(%d) is nil", h)
	}
	return all
}

// rangedOver: the same, over what All has answered earlier.
func (w *world) rangedOver(h int, all iter.Seq2[string, string], most int, body func(p api.Pair, n int)) int {
	w.t.Helper()
	y := w.rangeBegins(h)
	n := 0
	for k, v := range all {
		w.rangeGives(y, api.Pair{Key: k, Elem: v})
		n++
		if body != nil {
			body(api.Pair{Key: k, Elem: v}, n)
		}
		if n == most {
			break
		}
	}
	w.rangeEnds(y, n == most)
	return n
}

// rangeBegins: the row's own walk for a range; nil: the handle is no live map's.
func (w *world) rangeBegins(h int) *item {
	w.t.Helper()
	if w.fault(h, isMap) != api.OK {
		return nil
	}
	y := w.open(w.item(h), 0, 0)
	w.ranges = append(w.ranges, y)
	return y
}

// rangeGives: a range gives a pair.
func (w *world) rangeGives(y *item, p api.Pair) {
	w.t.Helper()
	if y == nil || y.dead {
		w.t.Fatalf("P14.9: All gives %q, and there is no live map", p)
	}
	if want, yes := w.wantNext(y); p != want || !yes {
		w.t.Fatalf("P14.9: All gives %q, want %q, %v", p, want, yes)
	}
	w.holds("P14.9: within a range")
}

// rangeEnds: a range has ended, or was left: the row's own walk stands on nothing, too.
func (w *world) rangeEnds(y *item, left bool) {
	w.t.Helper()
	if y != nil && !y.dead {
		if !left {
			if p, yes := w.wantNext(y); yes {
				w.t.Fatalf("P14.9: All has ended, want %q", p)
			}
		}
		w.closes(y)
	}
	w.ranges = slices.DeleteFunc(w.ranges, func(x *item) bool { return x == y })
	w.holds("P14.9: behind a range")
}
