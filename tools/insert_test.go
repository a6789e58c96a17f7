package tools_test

import (
	"fmt"
	"iter"
	"maps"
	"slices"
	"testing"

	"larder/api"
	"larder/store"
	"larder/tools"
)

// pair: a key and an elem, for a list.
func pair(k, v string) api.Pair { return api.Pair{Key: k, Elem: v} }

// counted: the pairs of a list; how often it was ranged over, and how many pairs were asked for.
func counted(list []api.Pair, ranges, asked *int) iter.Seq2[string, string] {
	return func(yield func(string, string) bool) {
		*ranges++
		for _, p := range list {
			*asked++
			if !yield(p.Key, p.Elem) {
				return
			}
		}
	}
}

// drawn: pairs of keys of one byte, of which some come again with another elem.
func drawn(n int) []api.Pair {
	var l []api.Pair
	for i := range n {
		l = append(l, pair(key(1, i*i%97), elem(1, i)))
	}
	return l
}

// TestInsert: P18.6: pairs into maps of each size: ranged over once, each pair asked for once; the answer is how many keys are new; of a key that comes again the last elem stays.
func TestInsert(t *testing.T) {
	for name, of := range hashes {
		for _, n := range sizes[:9] {
			for _, m := range []int{0, 1, 2, 9, 50, 300} {
				s := two(t, 1<<21, of, n, 3)()
				want := finite(t, s, 1)
				added := -len(want)
				for _, p := range drawn(m) {
					want[p.Key] = p.Elem
				}
				added += len(want)
				ranges, asked := 0, 0
				got, e := tools.Insert(s, 1, counted(drawn(m), &ranges, &asked))
				if got != added || e != api.OK || ranges != 1 || asked != m {
					t.Fatalf("P18.6: %s: Insert of %d pairs into %d keys = %d, error %d; ranged over %d times, asked for %d; want %d", name, m, n, got, e, ranges, asked, added)
				}
				if !maps.Equal(finite(t, s, 1), want) {
					t.Fatalf("P18.6: %s: behind Insert of %d pairs into %d keys the map is %s", name, m, n, text(t, s, 1))
				}
				sound(t, s)
			}
		}
	}
}

// TestInsertRefused: P18.6: the pair at each place is refused by its key, by its elem, by both (then by its key): nothing more is asked for; what came ahead of it stays; the answer is 0 and that error.
func TestInsertRefused(t *testing.T) {
	for _, bad := range []struct {
		p api.Pair
		e api.Errno
	}{
		{pair("", "x"), api.ErrKeyWidth}, {pair("ab", "x"), api.ErrKeyWidth}, {pair("a", ""), api.ErrElemWidth}, {pair("a", "xy"), api.ErrElemWidth}, {pair("ab", "xy"), api.ErrKeyWidth}, {pair("", ""), api.ErrKeyWidth},
	} {
		for _, at := range []int{0, 1, 7, 8, 14, 29} {
			list := drawn(30)
			list[at] = bad.p
			s := two(t, 1<<20, nil, 5, 5)()
			want := finite(t, s, 1)
			for _, p := range list[:at] {
				want[p.Key] = p.Elem
			}
			ranges, asked := 0, 0
			n, e := tools.Insert(s, 1, counted(list, &ranges, &asked))
			if n != 0 || e != bad.e || ranges != 1 || asked != at+1 || !maps.Equal(finite(t, s, 1), want) {
				t.Errorf("P18.6: Insert with %q at %d = %d, error %d, asked for %d pairs in %d ranges; the map is %s", bad.p, at, n, e, asked, ranges, text(t, s, 1))
			}
		}
	}
}

// TestInsertOutOfMemory: P18.6: an iterator without an end is asked till a put is refused by ErrMemory, and once for each put.
func TestInsertOutOfMemory(t *testing.T) {
	for limit := 64; limit < 6000; limit += 80 {
		asked, want := 0, 0
		endless := func(yield func(string, string) bool) {
			for ; asked < 1<<16 && yield(key(4, asked), "xy"); asked++ { // far more than any of the arenas has room for
			}
		}
		u := begin(t, limit)
		made(t, u, 1, wide)
		for ; ; want++ {
			if _, e := u.Put(1, key(4, want), "xy"); e != api.OK {
				break
			}
		}
		s := begin(t, limit)
		made(t, s, 1, wide)
		n, e := tools.Insert(s, 1, endless)
		if n != 0 || e != api.ErrMemory || asked != want || state(s) != state(u) {
			t.Fatalf("P18.6: limit %d: Insert = %d, error %d; %d pairs were put, want %d", limit, n, e, asked, want)
		}
	}
}

// TestInsertAll: P18.6: a store's own All: of another map, of the same one, of another store, of a handle that is no map's.
func TestInsertAll(t *testing.T) {
	for name, of := range hashes {
		for _, n := range sizes[:9] {
			build := two(t, 1<<21, of, n, 20)
			asPlainly(t, "P18.6: "+name+": Insert(1, All(2))", build,
				func(s *store.Store) (any, api.Errno) { return tools.Insert(s, 1, s.All(2)) },
				func(s *store.Store) (any, api.Errno) { return plainCopy(t, s, 1, 2) })
			s := build()
			was := state(s)
			for _, h := range []int{1, 77, 0, -1} {
				if got, e := tools.Insert(s, 1, s.All(h)); got != 0 || e != api.OK || state(s) != was {
					t.Fatalf("P18.6: %s: Insert(1, All(%d)) of %d keys = %d, error %d", name, h, n, got, e)
				}
			}
			other := begin(t, 1<<20)
			made(t, other, 5, chapter)
			if got, e := tools.Insert(other, 1, s.All(1)); got != n || e != api.OK || text(t, other, 1) != text(t, s, 1) {
				t.Fatalf("P18.6: %s: Insert of another store's map = %d, error %d; want %d", name, got, e, n)
			}
		}
	}
	s := bench(t)
	made(t, s, 1, wide, 1)
	if n, e := tools.Insert(s, 1, s.All(3)); n != 0 || e != api.ErrKeyWidth || text(t, s, 1) != "ax by" {
		t.Errorf("P18.6: Insert of a map of another shape = %d, error %d", n, e)
	}
}

// kindsOf: iterators of every kind over the same pairs. (The keys come in one order, but for that of the language's map.)
func kindsOf(t *testing.T, list []api.Pair) map[string]iter.Seq2[string, string] {
	t.Helper()
	other := begin(t, 1<<20)
	made(t, other, 3, chapter)
	plain := map[string]string{}
	for _, p := range list {
		other.Put(1, p.Key, p.Elem)
		plain[p.Key] = p.Elem
	}
	each := func(yield func(string, string) bool) {
		for _, p := range list {
			if !yield(p.Key, p.Elem) {
				return
			}
		}
	}
	return map[string]iter.Seq2[string, string]{
		"a list": each, "a map": maps.All(plain), "another store's All": other.All(1),
		"one that pulls another": func(yield func(string, string) bool) {
			next, stop := iter.Pull2(iter.Seq2[string, string](each))
			defer stop()
			for k, v, ok := next(); ok && yield(k, v); k, v, ok = next() {
			}
		},
		"one that sends on a channel": func(yield func(string, string) bool) {
			c := make(chan api.Pair, len(list))
			go func() {
				defer close(c)
				for _, p := range list {
					c <- p
				}
			}()
			for p := range c {
				if !yield(p.Key, p.Elem) {
					return
				}
			}
		},
		"one that asks from another goroutine": func(yield func(string, string) bool) {
			done := make(chan struct{})
			go func() {
				defer close(done)
				each(yield)
			}()
			<-done
		},
		"two in one": func(yield func(string, string) bool) {
			on := true
			for _, half := range [][]api.Pair{list[:len(list)/2], list[len(list)/2:]} {
				for _, p := range half {
					if on = on && yield(p.Key, p.Elem); !on {
						return
					}
				}
			}
		},
		"one that gives each pair twice": func(yield func(string, string) bool) {
			for k, v := range each {
				if !yield(k, v) || !yield(k, v) {
					return
				}
			}
		},
		"one that heeds no stop": func(yield func(string, string) bool) {
			for _, p := range list {
				yield(p.Key, p.Elem)
			}
		},
	}
}

// TestIterators: P18.6, P18.7: iterators of every kind.
func TestIterators(t *testing.T) {
	for _, n := range []int{0, 1, 8, 9, 40} {
		want := map[string]string{}
		for _, p := range drawn(n) {
			want[p.Key] = p.Elem
		}
		for name, pairs := range kindsOf(t, drawn(n)) {
			s := begin(t, 1<<20)
			made(t, s, 1, chapter)
			if got, e := tools.Insert(s, 1, pairs); got != len(want) || e != api.OK || !maps.Equal(finite(t, s, 1), want) {
				t.Errorf("P18.6: %s: Insert of %d pairs = %d, error %d; the map is %s", name, n, got, e, text(t, s, 1))
			}
			if h, e := tools.Collect(s, 7, pairs, 1, 1, 1, 1, 32); h != 2 || e != api.OK || !maps.Equal(finite(t, s, 2), want) {
				t.Errorf("P18.7: %s: Collect of %d pairs = %d, error %d", name, n, h, e)
			}
		}
	}
}

// TestNoHeed: W1, P18.6: an iterator that goes on when it is told to stop, and one that keeps what it was given and asks behind its end: nothing more is put, nothing panics.
func TestNoHeed(t *testing.T) {
	list := slices.Concat(drawn(5), []api.Pair{pair("abc", "x")}, drawn(40))
	var kept func(string, string) bool
	told := 0
	stubborn := func(yield func(string, string) bool) {
		kept, told = yield, 0
		for i, p := range list {
			if yes := yield(p.Key, p.Elem); yes != (i < 5) {
				t.Errorf("P18.6: at pair %d the iterator is told %v", i, yes)
			}
			told++
		}
	}
	want := map[string]string{}
	for _, p := range drawn(5) {
		want[p.Key] = p.Elem
	}
	s := begin(t, 65536)
	made(t, s, 1, chapter)
	n, e := tools.Insert(s, 1, stubborn)
	if n != 0 || e != api.ErrKeyWidth || told != len(list) || !maps.Equal(finite(t, s, 1), want) {
		t.Errorf("P18.6: Insert = %d, error %d; the map is %s", n, e, text(t, s, 1))
	}
	was := state(s)
	if kept("z", "z") || state(s) != was {
		t.Error("P18.6: Insert has ended, and its iterator is told to go on")
	}
	h, e := tools.Collect(s, 1, stubborn, chapter...)
	if h != 0 || e != api.ErrKeyWidth || told != len(list) || !slices.Equal(s.Handles(), []int{1}) || s.Hold().Next != 3 {
		t.Errorf("P18.7: Collect = %d, error %d; the handles are %v", h, e, s.Handles())
	}
	list = drawn(5)
	if n, e := tools.Insert(s, 1, stubborn); n != 0 || e != api.OK || kept("z", "z") {
		t.Errorf("P18.6: Insert = %d, error %d; behind it the iterator is told to go on", n, e)
	}
	if !maps.Equal(finite(t, s, 1), want) {
		t.Errorf("P18.6: the map is %s", text(t, s, 1))
	}
}

// TestInsertDeeds: P18.6: an iterator that itself puts, deletes, clears and releases in the same store, over a list and over the map itself: what is counted, asked for and left is what plain steps make of it.
func TestInsertDeeds(t *testing.T) {
	t.Parallel()
	seen := outcomes{}
	deedsDone(func(name string, deed func(s *store.Store, k string, n int), of func(int) uint64, limit, to, from int) {
		for _, over := range []int{0, 1, 2} {
			var got, want int
			gives := func(s *store.Store, n *int) iter.Seq2[string, string] {
				pairs := iter.Seq2[string, string](s.All(over))
				if over == 0 {
					var ranges, asked int
					pairs = counted(drawn(12), &ranges, &asked)
				}
				return func(yield func(string, string) bool) {
					for k, v := range pairs {
						*n++
						deed(s, k, *n)
						if !yield(k, v) {
							return
						}
					}
				}
			}
			what := fmt.Sprintf("P18.6: Insert into a map of %d keys, limit %d, of pairs of %d by an iterator that %s", to, limit, over, name)
			_, e := asPlainly(t, what, two(t, limit, of, to, from),
				func(s *store.Store) (any, api.Errno) { return tools.Insert(s, 1, gives(s, &got)) },
				func(s *store.Store) (any, api.Errno) { return plainInsert(s, 1, gives(s, &want)) })
			if got != want {
				t.Fatalf("%s: %d pairs were asked for, want %d", what, got, want)
			}
			seen[e]++
		}
	})
	if seen[api.OK] < 50 || seen[api.ErrGone] < 20 || seen[api.ErrMemory] < 20 {
		t.Errorf("the test is too tame: %v", seen)
	}
}
