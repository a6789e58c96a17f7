package swiss_test

import (
	"iter"
	"slices"
	"testing"

	"larder/api"
)

// pairsOf: what All must give now.
func (x *pair) pairsOf() []api.Pair {
	var l []api.Pair
	for _, c := range x.p.cells() {
		l = append(l, api.Pair{Key: c.Key, Elem: c.Elem})
	}
	return l
}

// gone: all that a range gives.
func gone(all iter.Seq2[string, string]) []api.Pair {
	var l []api.Pair
	for k, v := range all {
		l = append(l, api.Pair{Key: k, Elem: v})
	}
	return l
}

func same(t *testing.T, what string, got, want []api.Pair) {
	t.Helper()
	if !slices.Equal(got, want) {
		t.Fatalf("%s gives %.200q, want %.200q", what, got, want)
	}
}

// TestAllAgainAndAgain: what was answered once gives what there is as each range begins.
func TestAllAgainAndAgain(t *testing.T) {
	l := lay(t, descriptors[2])
	w := begin(t, 1<<16, l, ask(t))
	x := w.make(l, 5, 0)
	all := x.m.All()
	if all == nil {
		t.Fatal("P12.14: All of a bare map is nil")
	}
	for i := range 40 {
		same(t, "P12.14: All, answered by a bare map", gone(all), x.pairsOf())
		w.put(x, 1+i, i)
		if i%5 == 4 {
			w.delete(x, i)
		}
	}
	w.clear(x, 2)
	same(t, "P12.14: All of a cleared map", gone(all), nil)
}

// TestAllLeftAtEachPair: the function is called as it is, so that a pair given behind the last one asked for would be counted.
func TestAllLeftAtEachPair(t *testing.T) {
	staged(t, func(w *world, x *pair, name string) {
		want := x.pairsOf()
		all := x.m.All()
		for leave := range want {
			var got []api.Pair
			all(func(k, v string) bool {
				got = append(got, api.Pair{Key: k, Elem: v})
				return len(got) <= leave
			})
			same(t, "P12.14: "+name+", left early: All", got, want[:leave+1])
		}
		same(t, "P12.14: "+name+", after being left: All", gone(all), want)
		w.holds("P12.14: " + name)
	})
}

func TestAllWithinItself(t *testing.T) {
	staged(t, func(w *world, x *pair, name string) {
		want := x.pairsOf()
		all := x.m.All()
		var outer []api.Pair
		for k, v := range all {
			outer = append(outer, api.Pair{Key: k, Elem: v})
			same(t, "P12.14: "+name+", within itself: All", gone(all), want)
			for range all {
				break
			}
		}
		same(t, "P12.14: "+name+", around itself: All", outer, want)
	})
}

// TestAllIsThatOfTheBeginning: bodies that put, replace, delete, clear and release.
func TestAllIsThatOfTheBeginning(t *testing.T) {
	bodies := map[string]func(w *world, x *pair, key string, n int){
		"puts new keys":       func(w *world, x *pair, key string, n int) { w.put(x, 100+n, n) },
		"replaces its elem":   func(w *world, x *pair, key string, n int) { w.putText(x, key, text(x.p.l.Elem, 99)) },
		"deletes its key":     func(w *world, x *pair, key string, n int) { w.delete(x, numberOf(x, key)) },
		"deletes others":      func(w *world, x *pair, key string, n int) { w.delete(x, 1+n*3%40) },
		"clears it":           func(w *world, x *pair, key string, n int) { w.clear(x, uint64(n)) },
		"clears and fills it": func(w *world, x *pair, key string, n int) { w.clear(x, uint64(n)); w.put(x, 7, n) },
	}
	for name, body := range bodies {
		staged2(t, func(w *world, x *pair, stage string) {
			want := x.pairsOf()
			var got []api.Pair
			for k, v := range x.m.All() {
				body(w, x, k, len(got))
				got = append(got, api.Pair{Key: k, Elem: v})
			}
			same(t, "P12.14: "+stage+", whose body "+name+": All", got, want)
		})
	}
}

// staged2: the stages with one layout and two kinds of hashes.
func staged2(t *testing.T, each func(w *world, x *pair, name string)) {
	t.Helper()
	for _, k := range []kind{kinds[0], kinds[len(kinds)-1]} {
		for _, s := range stages {
			l := lay(t, descriptors[2])
			w := begin(t, 1<<19, l, ask(t, k.over(2)...))
			each(w, s.set(w, l), s.name+", "+k.name)
		}
	}
}

// numberOf: which key it is.
func numberOf(x *pair, key string) int {
	for i := range 200 {
		if text(x.p.l.Key, i) == key {
			return i
		}
	}
	panic("no key of a test")
}

// TestAllWhoseBodyReleases: the map dies at the first pair, and its blocks are another's; the range goes on with what was there.
func TestAllWhoseBodyReleases(t *testing.T) {
	staged2(t, func(w *world, x *pair, name string) {
		want := x.pairsOf()
		all := x.m.All()
		var got []api.Pair
		for k, v := range all {
			if len(got) == 0 {
				w.release(x)
			}
			if len(got) == 1 {
				y := w.make(x.p.l, 9, 20)
				w.fill(y, 100, 10)
				w.release(y)
			}
			got = append(got, api.Pair{Key: k, Elem: v})
		}
		same(t, "P12.14: "+name+", whose body releases it: All", got, want)
		if len(want) > 0 {
			same(t, "P12.14: "+name+", released: All", gone(all), nil)
		}
	})
}

// TestAllByTwoInTurn: the second range begins behind a change that the first one must not see.
func TestAllByTwoInTurn(t *testing.T) {
	staged2(t, func(w *world, x *pair, name string) {
		all := x.m.All()
		before := x.pairsOf()
		first, stopFirst := iter.Pull2(all)
		defer stopFirst()
		k, v, ok := first()
		w.put(x, 150, 1)
		w.delete(x, 2)
		after := x.pairsOf()
		second, stopSecond := iter.Pull2(all)
		defer stopSecond()
		var one, other []api.Pair
		for more := true; ok || more; {
			if ok {
				one = append(one, api.Pair{Key: k, Elem: v})
			}
			var p, q string
			if p, q, more = second(); more {
				other = append(other, api.Pair{Key: p, Elem: q})
			}
			k, v, ok = first()
		}
		same(t, "P12.14: "+name+", begun ahead of a put and a delete: All", one, before)
		same(t, "P12.14: "+name+", begun behind them: All", other, after)
	})
}

// TestAllInTheOrderOfTablesAndSlots: worked out by hand: the top bits tell the tables apart, the homes the groups.
func TestAllInTheOrderOfTablesAndSlots(t *testing.T) {
	l := lay(t, descriptors[0])
	o := ask(t, api.Over{Key: "a", Hash: 1<<63 + 128}, api.Over{Key: "b", Hash: 1 << 63}, api.Over{Key: "c", Hash: 128}, api.Over{Key: "d", Hash: 0})
	w := begin(t, 1<<16, l, o)
	x := w.make(l, 5, 15) // two tables of two groups
	for _, k := range []string{"a", "b", "c", "d"} {
		w.putText(x, k, k)
	}
	got := ""
	for k, v := range x.m.All() {
		got += k + v
	}
	if got != "ddccbbaa" {
		t.Errorf("P12.14: All gives %q, want d, c, b, a", got)
	}
}
