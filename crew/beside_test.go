package crew_test

import (
	"slices"
	"sync"
	"testing"

	"larder/api"
	"larder/audit"
	"larder/crew"
	"larder/store"
)

// beside: the call is made again and again by another goroutine, while the body runs; and once at the least: on a busy machine its first turn may come when the body has ended.
func beside(call, body func()) {
	var all sync.WaitGroup
	stop := make(chan struct{})
	all.Go(func() {
		for {
			call()
			select {
			case <-stop:
				return
			default:
			}
		}
	})
	body()
	close(stop)
	all.Wait()
}

// sound: a job's answers fit together, whatever others have done to the map meanwhile: its walks are numbered one after the other, and those that it has not opened or has released are refused by their own errors alone.
func sound(cs []api.Cmd, list []api.Answer) bool {
	opens := 0
	gone := map[int]int{}
	refused := func(n int) api.Errno {
		switch {
		case -n > opens:
			return api.ErrHandle
		case gone[n] > 0:
			return api.ErrGone
		}
		return api.OK
	}
	for i, c := range cs {
		a := list[i]
		switch c.Op {
		case api.OpOpen:
			if a.Err == api.OK {
				opens++
				if a.N != -opens {
					return false
				}
			}
		case api.OpNext:
			if e := refused(c.H); e != api.OK && a.Err != e || e == api.OK && a.Err != api.OK && a.Err != api.ErrGone {
				return false
			}
		case api.OpRelease:
			if a.Err != refused(c.Hs[0]) {
				return false
			}
			gone[c.Hs[0]]++
		}
	}
	return true
}

// busy: a job that opens walks over a map, steps and releases.
func busy(h int) []api.Cmd {
	var cs []api.Cmd
	for k := 1; k <= 40; k++ {
		cs = append(cs, open(h), next(-k), get(h, "a"), next(-k), release(-k), next(-k), open(h), next(-k-1), length(h))
	}
	return cs
}

// TestAtOnceWithWriters: P17.4, P17.5: the map is changed, cleared and made greater by another goroutine meanwhile: each job's answers fit together; behind it no walk and no pin is left.
func TestAtOnceWithWriters(t *testing.T) {
	s := bench(t)
	before := s.Hold().Next
	i := 0
	beside(func() {
		s.Put(1, key(i%90), "w")
		s.Delete(1, key(i*7%90))
		if i++; i%200 == 0 {
			s.Clear(1, uint64(i))
		}
	}, func() {
		for range 20 {
			readBusy(t, s)
		}
	})
	if hs := s.Handles(); !slices.Equal(hs, []int{1}) || s.Hold().Next == before {
		t.Errorf("P17.4: the handles are %v, the next one is %d, was %d", hs, s.Hold().Next, before)
	}
	if f := audit.Check(s.Arena(), s.Oracle(), s.Roots()...); f.Code != audit.Fine {
		t.Errorf("P17.4: behind Reads beside a writer the audit finds %+v", f)
	}
	s.Clear(1, 7)
	if s.Live() != 64 {
		t.Errorf("P17.4: a cleared map has %d bytes", s.Live())
	}
}

func readBusy(t *testing.T, s *store.Store) {
	t.Helper()
	cs := busy(1)
	got, e := crew.Read(s, slices.Repeat([][]api.Cmd{cs}, 4)...)
	if e != api.OK || len(got) != 4 {
		t.Fatalf("P17.5: Read: error %d, %d lists", e, len(got))
	}
	for _, list := range got {
		if len(list) != len(cs) || !sound(cs, list) {
			t.Fatalf("P17.2: the answers of a job do not fit together: %+v", list)
		}
	}
}

// TestAtOnceWithReleases: P17.4, P17.5: another goroutine releases the map, and with it the walks of the jobs: a job's release of its own walk is none the worse for that, the walks over other maps are released all the same, and Read ends.
func TestAtOnceWithReleases(t *testing.T) {
	for range 60 {
		s := bench(t)
		other, _ := s.Clone(1)
		cs := slices.Concat(job(open(other)), busy(1), job(next(-1)))
		for i := range cs[1 : len(cs)-1] { // the walk over the other map has the number -1
			c := &cs[i+1]
			if c.Op == api.OpNext {
				c.H--
			}
			if c.Op == api.OpRelease {
				c.Hs = []int{c.Hs[0] - 1}
			}
		}
		var got [][]api.Answer
		beside(func() { s.Release(1) }, func() { got, _ = crew.Read(s, cs, cs, cs) })
		for _, list := range got {
			if !sound(cs, list) || list[len(list)-1] != pair("a", "x") {
				t.Fatalf("P17.2: the answers of a job do not fit together: %+v", list)
			}
		}
		if hs := s.Handles(); len(got) != 3 || !slices.Equal(hs, []int{other}) {
			t.Fatalf("P17.4: %d lists; the handles are %v", len(got), hs)
		}
		if e := s.Release(other); e != api.OK || s.Live() != 0 {
			t.Fatalf("P17.4: %d bytes are live behind the last release", s.Live())
		}
	}
}
