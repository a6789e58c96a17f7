package tools_test

import (
	"math/rand"
	"slices"
	"sync"
	"testing"
	"time"

	"larder/api"
	"larder/store"
	"larder/tools"
)

// atOnce: so many goroutines, let loose together; no call of theirs waits for ever.
func atOnce(t *testing.T, many int, each func(i int)) {
	t.Helper()
	var all sync.WaitGroup
	loose := make(chan struct{})
	for i := range many {
		all.Go(func() {
			<-loose
			each(i)
		})
	}
	close(loose)
	ended := make(chan struct{})
	go func() {
		all.Wait()
		close(ended)
	}()
	select {
	case <-ended:
	case <-time.After(5 * time.Minute):
		t.Fatal("W1: a call does not end")
	}
}

// TestAtOnceChanged: P18.1, P18.2: others put and delete meanwhile: each key that stays is told, in order, none twice; a map is equal to itself all the while.
func TestAtOnceChanged(t *testing.T) {
	s := begin(t, 1<<20)
	h := made(t, s, 1, chapter, numbers(0, 20)...)
	var stay []string
	for n := range 20 {
		stay = append(stay, key(1, n))
	}
	atOnce(t, 6, func(i int) {
		r := rand.New(rand.NewSource(int64(i)))
		for range 60 {
			if i%2 == 0 {
				s.Put(h, key(1, 20+r.Intn(60)), key(1, i))
				s.Delete(h, key(1, 20+r.Intn(60)))
				s.Put(h, key(1, r.Intn(20)), key(1, i))
				continue
			}
			keys, e := tools.Keys(s, h)
			rising := slices.IsSorted(keys) && len(slices.Compact(slices.Clone(keys))) == len(keys)
			for _, k := range stay {
				if _, there := slices.BinarySearch(keys, k); !there || !rising || e != api.OK {
					t.Errorf("P18.1: Keys = %q, error %d: %q stays", keys, e, k)
					return
				}
			}
			if yes, e := tools.Equal(s, h, h); !yes || e != api.OK {
				t.Errorf("P18.2: a map is not equal to itself: error %d", e)
			}
		}
	})
	if pins, retired := stands(s); pins != 0 || retired != 0 {
		t.Errorf("P18.9: %d pins, %d retired ones", pins, retired)
	}
	sound(t, s)
}

// TestAtOnceReleased: P18.1, P18.2: another goroutine releases a map that does not change else: it is told whole, or refused by ErrGone; never in part.
func TestAtOnceReleased(t *testing.T) {
	for range 150 {
		s := begin(t, 1<<20)
		g, h := made(t, s, 1, chapter, numbers(0, 40)...), 0
		h, _ = s.Clone(g)
		want := pairsOf(t, s, g)
		atOnce(t, 4, func(i int) {
			switch i {
			case 0:
				if l, e := tools.Pairs(s, g); (e != api.OK || !slices.Equal(l, want)) && (e != api.ErrGone || len(l) != 0) {
					t.Errorf("P18.1: Pairs tells %d pairs of 40, error %d", len(l), e)
				}
			case 1:
				if l, e := tools.Keys(s, g); (e != api.OK || len(l) != 40) && (e != api.ErrGone || len(l) != 0) {
					t.Errorf("P18.1: Keys tells %d keys of 40, error %d", len(l), e)
				}
			case 2:
				if yes, e := tools.Equal(s, g, h); yes != (e == api.OK) || e != api.OK && e != api.ErrGone {
					t.Errorf("P18.2: Equal = %v, error %d", yes, e)
				}
			default:
				for range 25 {
					s.Len(g)
				}
				s.Release(g)
			}
		})
		if e := s.Release(h); e != api.OK || s.Live() != 0 {
			t.Fatalf("P18.9: all is released, error %d, and %d bytes are live", e, s.Live())
		}
	}
}

// TestAtOnceTools: P18.9: all tools at once, over maps that others change and release: each answer is one of those that the chapter knows; behind them no walk is left, and all bytes can be freed.
func TestAtOnceTools(t *testing.T) {
	s := begin(t, 1<<20)
	for i := range 4 {
		made(t, s, uint64(i), chapter, numbers(10*i, 10*i+20)...)
	}
	may := []api.Errno{api.OK, api.ErrHandle, api.ErrGone, api.ErrKind, api.ErrShape, api.ErrMemory, api.ErrKeyWidth}
	atOnce(t, 8, func(i int) {
		r := rand.New(rand.NewSource(int64(i)))
		for range 60 {
			if e := anyTool(s, r); !slices.Contains(may, e) {
				t.Errorf("W1: error %d", e)
			}
		}
	})
	if pins, retired := stands(s); pins != 0 || retired != 0 {
		t.Errorf("P18.9: %d pins, %d retired ones", pins, retired)
	}
	sound(t, s)
	if e := s.Release(s.Handles()...); e != api.OK || s.Live() != 0 {
		t.Errorf("P18.9: all is released, error %d, and %d bytes are live", e, s.Live())
	}
}

// anyTool: some tool, or a make or a release, of some of the first handles, dead or not; the maps do not become too many.
func anyTool(s *store.Store, r *rand.Rand) api.Errno {
	hs := s.Handles()
	if len(hs) > 12 {
		s.Release(hs[r.Intn(len(hs))])
	}
	hs = append(hs, 1, 2, 99999)
	g, h := hs[r.Intn(len(hs))], hs[r.Intn(len(hs))]
	var e api.Errno
	switch r.Intn(11) {
	case 0:
		_, e = tools.Pairs(s, g)
	case 1:
		_, e = tools.Equal(s, g, h)
	case 2:
		_, e = tools.Copy(s, g, h)
	case 3:
		_, e = tools.Merge(s, g, h, func(k, old, v string) string { s.Get(h, k); return max(old, v) })
	case 4:
		_, e = tools.DeleteFunc(s, g, func(k, v string) bool { return k[0]%5 == 0 })
	case 5:
		_, e = tools.Insert(s, g, s.All(h))
	case 6:
		_, e = tools.Collect(s, r.Uint64(), s.All(g), chapter...)
	case 7:
		_, e = tools.Union(s, g, h, g)
	case 8:
		_, e = tools.Meet(s, g, h)
	case 9:
		_, e = tools.Less(s, g, h)
	default:
		_, e = s.Make(1, 0, []int{1, 2}[r.Intn(2)], 1, 1, 1, 16)
	}
	return e
}
