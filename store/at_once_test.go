package store_test

import (
	"fmt"
	"maps"
	"math/rand"
	"runtime"
	"slices"
	"sync"
	"sync/atomic"
	"testing"
	"time"

	"larder/api"
	"larder/store"
	"larder/swiss"
)

// atOnce: so many goroutines, let loose together; no call of theirs waits for ever.
func atOnce(t *testing.T, many int, each func(i int)) {
	t.Helper()
	var all sync.WaitGroup
	loose := make(chan struct{})
	for i := range many {
		all.Go(func() {
			<-loose
			each(i)
		})
	}
	close(loose)
	ended := make(chan struct{})
	go func() {
		all.Wait()
		close(ended)
	}()
	select {
	case <-ended:
	case <-time.After(2 * time.Minute):
		t.Fatal("P14.12: a call waits for ever")
	}
}

// TestAtOnceOwnMaps: P14.12: each goroutine has maps of its own, and gets the answers of finite maps; all handles are told apart; at the end nothing is left.
func TestAtOnceOwnMaps(t *testing.T) {
	s := begin(t, 1<<21)
	var lock sync.Mutex
	given := map[int]int{}
	atOnce(t, 8, func(i int) {
		r := rand.New(rand.NewSource(int64(i)))
		for range 3 {
			h, e := s.Make(r.Uint64(), 0, scripted[i%3]...)
			lock.Lock()
			given[h]++
			lock.Unlock()
			if e != api.OK || !alone(s, h, scripted[i%3][1], r) {
				t.Errorf("P14.12: a map with the handle %d, error %d, is not a finite map", h, e)
				return
			}
			if e := s.Release(h); e != api.OK {
				t.Errorf("P14.12: Release(%d): error %d", h, e)
			}
		}
	})
	for h, n := range given {
		if n != 1 || h < 1 {
			t.Errorf("P14.12: the handle %d was given %d times", h, n)
		}
	}
	if len(given) != 24 || s.Live() != 0 || len(s.Handles()) != 0 {
		t.Errorf("P14.12: %d maps were made; %d bytes are live behind them, and the handles are %v", len(given), s.Live(), s.Handles())
	}
}

// alone: one goroutine's calls of one map, against a finite one: do they answer as it does?
func alone(s *store.Store, h, elem int, r *rand.Rand) bool {
	pairs := map[string]string{}
	for n := range 300 {
		key, value := text(1, r.Intn(60)), text(elem, n)
		was, there := pairs[key]
		switch r.Intn(4) {
		case 0:
			if yes, e := s.Delete(h, key); yes != there || e != api.OK {
				return false
			}
			delete(pairs, key)
		case 1:
			if got, yes, e := s.Get(h, key); got != was || yes != there || e != api.OK {
				return false
			}
		default:
			if yes, e := s.Put(h, key, value); yes == there || e != api.OK {
				return false
			}
			pairs[key] = value
		}
		if n%60 == 59 && (!maps.Equal(maps.Collect(s.All(h)), pairs) || !walked(s, h, pairs)) {
			return false
		}
	}
	n, e := s.Len(h)
	return n == len(pairs) && e == api.OK
}

// walked: does a walk over the map yield just these pairs?
func walked(s *store.Store, h int, pairs map[string]string) bool {
	w, e := s.Open(h, 3, 5)
	if e != api.OK {
		return false
	}
	for range len(pairs) {
		p, yes, e := s.Next(w)
		if !yes || e != api.OK || pairs[p.Key] != p.Elem {
			return false
		}
	}
	_, yes, e := s.Next(w)
	return !yes && e == api.OK && s.Release(w) == api.OK
}

// TestAtOnceOneThing: P14.12: what only one of several can get is got by one: to add a key, to delete it, to release a handle, to be given a handle, to be yielded a pair.
func TestAtOnceOneThing(t *testing.T) {
	const many = 8
	s := begin(t, 1<<20)
	m := made(t, s, "")
	for n := range 60 {
		var added, deleted, released, gone atomic.Int64
		key := text(1, n)
		atOnce(t, many, func(i int) {
			if yes, _ := s.Put(m, key, "x"); yes {
				added.Add(1)
			}
		})
		atOnce(t, many, func(i int) {
			if yes, _ := s.Delete(m, key); yes {
				deleted.Add(1)
			}
		})
		w := opened(t, s, m, 0)
		atOnce(t, many, func(i int) {
			switch s.Release(w) {
			case api.OK:
				released.Add(1)
			case api.ErrGone:
				gone.Add(1)
			}
		})
		if added.Load() != 1 || deleted.Load() != 1 || released.Load() != 1 || gone.Load() != many-1 {
			t.Fatalf("P14.12: %d goroutines: %d have added one key, %d have deleted it, %d have released one walk, for %d it was dead", many, added.Load(), deleted.Load(), released.Load(), gone.Load())
		}
	}
	next := s.Hold().Next
	given := make([][]int, many)
	atOnce(t, many, func(i int) {
		for n := range 30 {
			h, _ := s.Open(m, 0, 0)
			if n%3 == 0 {
				h, _ = s.Make(0, 0, chapter...)
			}
			given[i] = append(given[i], h)
		}
	})
	all := slices.Sorted(slices.Values(slices.Concat(given...)))
	if len(slices.Compact(all)) != many*30 || all[0] < next || s.Hold().Next != next+many*40 {
		t.Fatalf("P14.12: from %d on the handles %v were given", next, all)
	}
}

// TestAtOnceOneWalk: P14.12: several goroutines ask one walk for its next: each pair is yielded once.
func TestAtOnceOneWalk(t *testing.T) {
	for _, keys := range []int{5, 40, 90} {
		s := begin(t, 1<<20)
		m := made(t, s, letters(keys))
		w := opened(t, s, m, 0)
		lists := make([][]string, 8)
		atOnce(t, len(lists), func(i int) {
			for {
				p, yes, e := s.Next(w)
				if !yes || e != api.OK {
					return
				}
				lists[i] = append(lists[i], p.Key)
			}
		})
		all := slices.Sorted(slices.Values(slices.Concat(lists...)))
		if len(all) != keys || len(slices.Compact(all)) != keys {
			t.Fatalf("P14.12: a walk over %d keys yields %q", keys, all)
		}
	}
}

// TestAtOnceRanges: P14.12, P14.9: ranges over one map while others change it, with calls in their bodies: each gives no key twice, and each key that stays; nothing is pinned behind them.
func TestAtOnceRanges(t *testing.T) {
	s := begin(t, 1<<21)
	m := made(t, s, letters(20)) // they stay
	all := s.All(m)
	atOnce(t, 8, func(i int) {
		r := rand.New(rand.NewSource(int64(i)))
		for range 40 {
			if i%2 == 0 {
				s.Put(m, string([]byte{byte(100 + r.Intn(100))}), "y")
				s.Delete(m, string([]byte{byte(100 + r.Intn(100))}))
				continue
			}
			seen := map[string]int{}
			for k := range all {
				seen[k]++
				if len(seen)%7 == 0 {
					s.Get(m, k)
					s.Live()
					for range s.All(m) {
						break
					}
				}
			}
			for k, n := range seen {
				if n > 1 {
					t.Errorf("P14.9: %q comes %d times", k, n)
				}
			}
			for _, k := range letters(20) {
				if seen[string(k)] != 1 {
					t.Errorf("P14.9: %q stays, and comes %d times", k, seen[string(k)])
				}
			}
		}
	})
	root := s.Roots()[0]
	if pins, retired := pinsOf(swiss.At(s.Arena(), root.Layout, s.Oracle(), root.Off)); pins != 0 || retired != 0 {
		t.Errorf("P14.9: all ranges have ended, and there are %d pins and %d retired ones", pins, retired)
	}
}

// TestAtOnceReleased: P14.12: maps are made, ranged over and released by several goroutines that know one another's handles: every answer is one that some order gives, and at the end nothing is left.
func TestAtOnceReleased(t *testing.T) {
	s := begin(t, 1<<21)
	atOnce(t, 8, func(i int) {
		r := rand.New(rand.NewSource(int64(i)))
		for n := range 200 {
			h := 1 + r.Intn(60)
			var e api.Errno
			switch r.Intn(10) {
			case 0, 1:
				_, e = s.Make(r.Uint64(), r.Intn(20), chapter...)
			case 2:
				e = s.Release(h)
			case 3:
				_, e = s.Open(h, 1, 2)
			case 4:
				_, _, e = s.Next(h)
			case 5:
				for range s.All(h) {
					s.Handles()
					s.Put(h, text(1, n), "z")
				}
			case 6:
				_, e = s.Clone(h)
			case 7:
				if hold := s.Hold(); hold.Next < 1 || s.Arena() == nil || s.Oracle() == nil || len(s.Roots()) > 8*200 {
					t.Errorf("P14.12: Hold = %v", hold)
				}
			case 8:
				_, e = s.Slots(h)
				if _, f := s.Probes(h, text(1, n)); e == api.OK {
					e = f
				}
			default:
				_, e = s.Put(h, text(1, r.Intn(100)), "x")
			}
			if e != api.OK && e != api.ErrHandle && e != api.ErrGone && e != api.ErrKind {
				t.Errorf("P14.12: error %d", e)
			}
		}
	})
	answers(t, "P14.12: Release of all", s.Release(s.Handles()...), api.OK)
	if s.Live() != 0 {
		t.Errorf("P14.12: all is released, and %d bytes are live", s.Live())
	}
}

// TestAtOnceInSomeOrder: P14.12: what three goroutines are answered, and what they leave, is what one gets that gives the same commands one after the other, in some order.
func TestAtOnceInSomeOrder(t *testing.T) {
	for n := range 300 {
		r := rand.New(rand.NewSource(int64(n)))
		var jobs [3][]api.Cmd
		for i := range jobs {
			for range 3 {
				jobs[i] = append(jobs[i], anyCommand(r))
			}
		}
		s := beginning(t)
		var got [3][]api.Answer
		atOnce(t, len(jobs), func(i int) {
			for _, c := range jobs[i] {
				got[i] = append(got[i], play(s, c))
				runtime.Gosched()
			}
		})
		left := fmt.Sprint(stateOf(t, s))
		if !inSomeOrder(t, jobs, [3]int{}, nil, got, left) {
			t.Fatalf("P14.12: no order of these commands gives these answers, or leaves that: %v: %v", jobs, got)
		}
	}
}

// beginning: a small store: a map (1) with two keys, a walk over it (2).
func beginning(t *testing.T) *store.Store {
	t.Helper()
	s := begin(t, 900)
	opened(t, s, made(t, s, "ab"), 0)
	return s
}

// anyCommand: one that others may get in the way of.
func anyCommand(r *rand.Rand) api.Cmd {
	key := []string{"a", "b", "c"}[r.Intn(3)]
	return []api.Cmd{
		{Op: api.OpMake, Fields: chapter}, {Op: api.OpGet, H: 1, Key: key}, {Op: api.OpPut, H: 1, Key: key, Elem: key}, {Op: api.OpPut, H: 3, Key: key, Elem: "z"},
		{Op: api.OpDelete, H: 1, Key: key}, {Op: api.OpLen, H: 1}, {Op: api.OpLen, H: 3}, {Op: api.OpClone, H: 1}, {Op: api.OpOpen, H: 1}, {Op: api.OpNext, H: 2}, {Op: api.OpNext, H: 3},
		{Op: api.OpRelease, Hs: []int{2}}, {Op: api.OpRelease, Hs: []int{3, 1}}, {Op: api.OpRelease, Hs: []int{3}}, {Op: api.OpClear, H: 1, U: 1}, {Op: api.OpLive},
	}[r.Intn(16)]
}

// inSomeOrder: is there an order, from the commands that were done already on, that gives these answers and leaves that?
func inSomeOrder(t *testing.T, jobs [3][]api.Cmd, at [3]int, order []int, got [3][]api.Answer, left string) bool {
	t.Helper()
	s := beginning(t)
	var done [3]int
	for _, i := range order {
		if play(s, jobs[i][done[i]]) != got[i][done[i]] {
			return false
		}
		done[i]++
	}
	if len(order) == 9 {
		return fmt.Sprint(stateOf(t, s)) == left
	}
	for i := range jobs {
		if at[i] == len(jobs[i]) {
			continue
		}
		next := at
		next[i]++
		if inSomeOrder(t, jobs, next, append(slices.Clone(order), i), got, left) {
			return true
		}
	}
	return false
}
