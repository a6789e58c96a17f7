package typed_test

import (
	"sync"
	"testing"
	"time"

	"larder/api"
	"larder/typed"
)

// atOnce: so many goroutines, let loose together; no call of theirs waits for ever.
func atOnce(t *testing.T, many int, each func(i int)) {
	t.Helper()
	var all sync.WaitGroup
	loose := make(chan struct{})
	for i := range many {
		all.Go(func() {
			<-loose
			each(i)
		})
	}
	close(loose)
	ended := make(chan struct{})
	go func() {
		all.Wait()
		close(ended)
	}()
	select {
	case <-ended:
	case <-time.After(5 * time.Minute):
		t.Fatal("W1: a call does not end")
	}
}

// TestAtOnceOneMap: P21.12: several goroutines with one Map, and with Maps of their own of one handle: each has keys of its own, which no other changes.
func TestAtOnceOneMap(t *testing.T) {
	s := begin(t, 1<<21)
	m := made(t, s, both(whole, text(3)), whole, 7)
	atOnce(t, 8, func(i int) {
		m := m
		if i%2 == 1 {
			own, e := typed.Use(s, both(whole, text(3)), whole, m.Handle())
			if own == nil || e != api.OK {
				t.Errorf("P21.9: error %d", e)
				return
			}
			m = own
		}
		for n := range int64(60) {
			key := two(int64(i), string(rune('a'+n%20)))
			added, e := m.Put(key, n)
			v, yes, f := m.Get(key)
			if added != (n < 20) || e != api.OK || v != n || !yes || f != api.OK {
				t.Errorf("P21.12: Put = %v, error %d; Get = %d, %v, error %d", added, e, v, yes, f)
				return
			}
			mine := 0
			for k := range m.All() {
				if k.First == int64(i) {
					mine++
				}
			}
			if mine != int(min(n+1, 20)) {
				t.Errorf("P21.11: %d keys of this one, want %d", mine, min(n+1, 20))
			}
		}
		for n := range 5 {
			if yes, e := m.Delete(two(int64(i), string(rune('a'+n)))); !yes || e != api.OK {
				t.Errorf("P21.12: Delete = %v, error %d", yes, e)
			}
		}
	})
	if n, e := m.Len(); n != 8*15 || e != api.OK {
		t.Errorf("P21.12: Len = %d, error %d", n, e)
	}
	calm(t, "calls at once", s)
}

// TestAtOnceReleased: P21.9, P21.10: another goroutine releases the map: each call is as ahead of that, or refused by ErrGone.
func TestAtOnceReleased(t *testing.T) {
	for range 200 {
		s := begin(t, 1<<20)
		m := made(t, s, whole, text(3), 7)
		for n := range int64(20) {
			puts(t, m, n, "ab", true)
		}
		fits := func(what string, e api.Errno, right bool) {
			if (e != api.OK || !right) && e != api.ErrGone {
				t.Errorf("P21.10: %s: error %d, or another answer", what, e)
			}
		}
		atOnce(t, 4, func(i int) {
			switch i {
			case 0:
				u, e := typed.Use(s, whole, text(3), m.Handle())
				fits("Use", e, u != nil)
				if (u == nil) != (e != api.OK) {
					t.Errorf("P21.9: Use: error %d", e)
				}
			case 1:
				v, yes, e := m.Get(5)
				fits("Get", e, v == "ab" && yes)
				n, e := m.Len()
				fits("Len", e, n == 20)
			case 2:
				added, e := m.Put(5, "ab")
				fits("Put", e, !added)
				for _, v := range m.All() {
					if v != "ab" {
						t.Errorf("P21.11: %q", v)
					}
				}
			default:
				for range 10 {
					s.Len(m.Handle())
				}
				s.Release(m.Handle())
			}
		})
		if s.Live() != 0 {
			t.Fatalf("U5: all is released, and %d bytes are live", s.Live())
		}
	}
}

// TestAtOnceCodecs: W2: codecs are values: many goroutines lay and read with one.
func TestAtOnceCodecs(t *testing.T) {
	c := both(both(float, text(20)), both(truth, whole))
	atOnce(t, 8, func(i int) {
		for n := range 500 {
			v := two(two(float64(n)/float64(i+1), filler(n%20)), two(n%2 == 0, int64(n-i)))
			if s, yes := c.Pack(v); !yes || c.Unpack(s) != v {
				t.Errorf("P21.6: %v is laid as %x, and read as %v", v, s, c.Unpack(s))
			}
		}
	})
}
