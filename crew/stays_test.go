package crew_test

import (
	"runtime"
	"slices"
	"strings"
	"testing"
	"time"

	"larder/api"
	"larder/crew"
	"larder/store"
)

// steps: what a walk of the store yields from where it stands.
func steps(s *store.Store, h int) string {
	var text strings.Builder
	for {
		p, yes, e := s.Next(h)
		if e != api.OK {
			return "error"
		}
		if !yes {
			return text.String()
		}
		text.WriteString(p.Key + p.Elem + " ")
	}
}

// TestWhatStays: P17.4: behind Read the store's maps, its walks and its bytes are as before: all further answers are those of a world in which nobody read, but that the next handle has gone up.
func TestWhatStays(t *testing.T) {
	for seed := range int64(30) {
		s, other := world(t), world(t)
		jobs := draws(5000 + seed).jobs(16)
		before := kept(s)
		got, e := crew.Read(s, jobs...)
		if e != api.OK {
			t.Fatalf("P17.2: Read: error %d", e)
		}
		walks := walksOf(got)
		if now := s.Hold().Next; now != nextFree+walks {
			t.Fatalf("P17.4: seed %d: the next handle is %d behind %d walks, was %d", seed, now, walks, nextFree)
		}
		if kept(s) != before {
			t.Fatalf("P17.4: seed %d: the store is not as it was", seed)
		}
		for _, h := range []int{fewWalk, manyWalk, grownWalk, doneWalk} {
			if a, b := steps(s, h), steps(other, h); a != b {
				t.Fatalf("P17.4: seed %d: the walk %d goes on with %q, want %q", seed, h, a, b)
			}
		}
		for i := range 70 {
			for _, h := range []int{few, bare, grown} {
				s.Put(h, key(i), "n")
				other.Put(h, key(i), "n")
			}
		}
		if kept(s) != kept(other) {
			t.Fatalf("P17.4: seed %d: behind further puts the store is another than one in which nobody read", seed)
		}
	}
}

// TestWalksInEveryState: P17.4: walks that are left by their job ahead of their first step, midway, done, or released by itself: nothing is left of them, no pin and no handle.
func TestWalksInEveryState(t *testing.T) {
	for _, h := range []int{few, many, bare, grown} {
		for taken := range 64 {
			cs := append(job(open(h)), slices.Repeat(job(next(-1)), taken)...)
			twice := append(append(slices.Clone(cs), open(h), next(-2)), release(-1))
			reads(t, world(t), [][]api.Cmd{cs, twice}, plainly(world(t), cs), plainly(world(t), twice))
		}
	}
}

// TestFreedAfterwards: P17.4: no pin is left: what is replaced behind Read is freed at once, and all bytes are free when all handles are released.
func TestFreedAfterwards(t *testing.T) {
	s := bench(t)
	cs := job(open(1), next(-1), open(1), next(-2), next(-2))
	for range 20 {
		if _, e := crew.Read(s, cs, cs, cs); e != api.OK {
			t.Fatalf("P17.2: Read: error %d", e)
		}
	}
	other := bench(t)
	for i := range 100 {
		s.Put(1, key(i), "n")
		other.Put(1, key(i), "n")
	}
	if s.Live() != other.Live() || kept(s) != kept(other) {
		t.Errorf("P17.4: %d bytes are live behind puts, want %d: a pin is left", s.Live(), other.Live())
	}
	if e := s.Release(1); e != api.OK || s.Live() != 0 {
		t.Errorf("P17.4: Release(1): error %d, %d bytes are live", e, s.Live())
	}
}

// TestFullArena: P17.4: Read takes no memory of the arena: a store without a free byte is read as any other.
func TestFullArena(t *testing.T) {
	s := begin(t, 256)
	s.Make(7, 0, chapter...)
	for i := range 8 {
		s.Put(1, key(i), "x")
	}
	if s.Live() != 256 {
		t.Fatalf("%d bytes are live", s.Live())
	}
	cs := append(job(open(1)), slices.Repeat(job(next(-1)), 9)...)
	want := answers(opened(1))
	for i := range 8 {
		want = append(want, pair(key(i), "x"))
	}
	want = append(want, done())
	reads(t, s, slices.Repeat([][]api.Cmd{cs}, 16), slices.Repeat([][]api.Answer{want}, 16)...)
}

// TestNoGoroutineIsLeft: P17.4: behind Read there are no more goroutines than ahead of it. (One that has said that it ends needs a moment to be gone.)
func TestNoGoroutineIsLeft(t *testing.T) {
	s := world(t)
	was := runtime.NumGoroutine()
	refused := slices.Repeat([][]api.Cmd{{open(many), next(-1)}}, 16)
	refused[15] = job(next(0))
	for seed := range int64(30) {
		crew.Read(s, draws(6000+seed).jobs(16)...)
		crew.Read(s, refused...)
		crew.Read(s)
	}
	now := runtime.NumGoroutine()
	for tries := 0; now > was && tries < 20000; tries++ {
		time.Sleep(time.Millisecond)
		now = runtime.NumGoroutine()
	}
	if now > was {
		t.Errorf("P17.4: %d goroutines, were %d", now, was)
	}
}
