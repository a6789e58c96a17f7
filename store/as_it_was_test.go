package store_test

import (
	"fmt"
	"maps"
	"math"
	"math/rand"
	"slices"
	"testing"

	"larder/api"
)

// refusals: commands that are refused, whatever the store is like now, but never by ErrMemory.
func (r *run) refusals() []api.Cmd {
	list := []api.Cmd{
		{Op: api.OpMake, N: 5, Fields: wrongFields[r.r.Intn(len(wrongFields))].fields},
		{Op: api.OpMake, N: 4097, Fields: chapter},
		{Op: api.OpMake, N: -1, Fields: chapter},
	}
	handles := []int{0, -1, r.w.next, math.MaxInt}
	for _, x := range r.w.row {
		switch {
		case x.dead || isWalk(x):
			handles = append(handles, x.h)
		default:
			list = append(list, api.Cmd{Op: api.OpGet, H: x.h, Key: "abc"}, api.Cmd{Op: api.OpPut, H: x.h, Key: "abc", Elem: "x"}, api.Cmd{Op: api.OpPut, H: x.h, Key: "a", Elem: text(77, 1)},
				api.Cmd{Op: api.OpDelete, H: x.h, Key: ""}, api.Cmd{Op: api.OpProbes, H: x.h, Key: ""}, api.Cmd{Op: api.OpNext, H: x.h})
		}
		if !x.dead {
			list = append(list, api.Cmd{Op: api.OpRelease, Hs: []int{x.h, x.h}}, api.Cmd{Op: api.OpRelease, Hs: []int{x.h, r.w.next}})
		}
	}
	for _, h := range handles {
		for _, op := range []int{api.OpGet, api.OpPut, api.OpDelete, api.OpLen, api.OpClear, api.OpClone, api.OpOpen, api.OpProbes, api.OpSlots} {
			list = append(list, api.Cmd{Op: op, H: h, Key: "a", Elem: "x", U: 1, V: 1})
		}
	}
	return list
}

// TestNoise: P14.13: beside the store that is given a script a second one is given the same, and refused commands between: it answers the same, and is the same byte by byte.
func TestNoise(t *testing.T) {
	for i, k := range kinds {
		for n, limit := range []int{4000, 1 << 19} {
			t.Run(fmt.Sprint(k.name, ", limit ", limit), func(t *testing.T) {
				t.Parallel()
				r := newRun(t, 900+10*i+n, limit, k.over())
				noisy := begin(t, limit, k.over()...)
				for at := range 500 {
					c := r.draw(at/60%2 == 0)
					a := r.w.do(c)
					if b := play(noisy, c); a != b {
						t.Fatalf("P14.13: behind refused commands %#v answers %#v, without them %#v", c, b, a)
					}
					list := r.refusals()
					for range 12 {
						c := list[r.r.Intn(len(list))]
						if b := play(noisy, c); b.Err == api.OK || b.Err == api.ErrMemory || b != (api.Answer{Op: c.Op, Err: b.Err}) {
							t.Fatalf("P14.13: %#v answers %#v", c, b)
						}
					}
					unchanged(t, "P14.13: behind refused commands", noisy, stateOf(t, r.w.stores[0]))
				}
			})
		}
	}
}

// TestWithoutTheRefused: P14.13: a script, and the same without the commands that were refused (but by ErrMemory): all other answers are the same.
func TestWithoutTheRefused(t *testing.T) {
	for i, k := range kinds {
		for n, limit := range []int{2000, 20000, 1 << 19} {
			t.Run(fmt.Sprint(k.name, ", limit ", limit), func(t *testing.T) {
				t.Parallel()
				r := newRun(t, 300+10*i+n, limit, k.over())
				r.goOn(1200)
				w := start(t, limit, k.over()...)
				left := 0
				for at, c := range r.cmds {
					if e := r.told[at].Err; e != api.OK && e != api.ErrMemory {
						left++
						continue
					}
					if a := w.do(c); a != r.told[at] {
						t.Fatalf("P14.13: without refused commands %#v answers %#v, with them %#v", c, a, r.told[at])
					}
				}
				unchanged(t, "P14.13: without the refused", w.stores[0], stateOf(t, r.w.stores[0]))
				if left < 50 {
					t.Errorf("the run is too tame: %d commands were left out", left)
				}
			})
		}
	}
}

// TestSeveralStores: W2: several stores in turns: each is what it is alone, by the row beside it.
func TestSeveralStores(t *testing.T) {
	var runs []*run
	for i, k := range kinds {
		runs = append(runs, newRun(t, i, []int{3000, 20000, 1 << 19}[i%3], k.over()))
	}
	turns := rand.New(rand.NewSource(1))
	for i := range 3000 {
		r := runs[turns.Intn(len(runs))]
		r.give(r.draw(i/300%2 == 0))
	}
	for _, r := range runs {
		r.w.holds("W2: behind the turns")
		r.finish()
		for _, q := range runs {
			if q != r && (q.w.stores[0].Arena() == r.w.stores[0].Arena() || q.w.stores[0].Oracle() == r.w.stores[0].Oracle()) {
				t.Fatal("W2: two stores have one arena or one hash")
			}
		}
	}
}

// TestRangesInScripts: P14.9: ranges over All among the commands of scripts, with commands in their bodies, ranges too.
func TestRangesInScripts(t *testing.T) {
	for i, k := range kinds {
		for n, limit := range []int{4000, 30000, 1 << 19} {
			t.Run(fmt.Sprint(k.name, ", limit ", limit), func(t *testing.T) {
				t.Parallel()
				r := newRun(t, 700+10*i+n, limit, k.over())
				for range 60 {
					r.goOn(8)
					r.ranges(3)
				}
				r.finish()
			})
		}
	}
}

// ranges: a range over a map's pairs, with commands in its body, and ranges as deep as that.
func (r *run) ranges(deep int) {
	r.w.t.Helper()
	r.w.ranged(r.handle(isMap), 1+r.r.Intn(40), func(api.Pair, int) {
		switch r.r.Intn(12) {
		case 0, 1, 2:
			r.goOn(1 + r.r.Intn(4))
		case 3:
			if deep > 0 {
				r.ranges(deep - 1)
			}
		}
	})
}

// TestHashIsNotSeen: U3: one script under several hashes, seeds and draws: the answers of get, put, delete, len, clear and clone are the same, and ranges give the same pairs, in whatever order.
func TestHashIsNotSeen(t *testing.T) {
	r := newRun(t, 77, 1<<21, nil)
	r.goOn(2500)
	for i, k := range kinds {
		s := begin(t, 1<<21, k.over()...)
		u := begin(t, 1<<21)
		seeds := rand.New(rand.NewSource(int64(i)))
		for at, c := range r.cmds {
			play(u, c)
			if c.Op == api.OpMake || c.Op == api.OpClear || c.Op == api.OpOpen {
				c.U, c.V = seeds.Uint64(), seeds.Uint64()
			}
			a := play(s, c)
			switch c.Op {
			case api.OpNext, api.OpLive, api.OpProbes, api.OpSlots:
				continue
			}
			if a != r.told[at] {
				t.Fatalf("U3: with %s %#v answers %#v, else %#v", k.name, c, a, r.told[at])
			}
			if at%50 > 0 {
				continue
			}
			if !slices.Equal(s.Handles(), u.Handles()) {
				t.Fatalf("U3: with %s Handles = %v, else %v", k.name, s.Handles(), u.Handles())
			}
			for _, h := range s.Handles() {
				if got, want := maps.Collect(s.All(h)), maps.Collect(u.All(h)); !maps.Equal(got, want) {
					t.Fatalf("U3: with %s a range gives %v, else %v", k.name, got, want)
				}
			}
		}
	}
}

// TestManyKeys: U1, U5, U6: maps of thousands of keys, clones of them, and walks, against finite maps alone.
func TestManyKeys(t *testing.T) {
	for i, limit := range []int{16, 256, 1024} {
		w := start(t, 1<<21)
		w.quiet = true
		r := rand.New(rand.NewSource(int64(i)))
		fields := []int{2, 3, 1, 1, limit}
		w.do(api.Cmd{Op: api.OpMake, U: 5, N: 100 * i, Fields: fields})
		w.do(api.Cmd{Op: api.OpOpen, H: 1, U: 9, V: 9})
		for n := range 12000 {
			key := text(2, r.Intn(3000))
			switch at := r.Intn(100); {
			case at < 60:
				w.do(api.Cmd{Op: api.OpPut, H: 1, Key: key, Elem: text(3, n)})
			case at < 80:
				w.do(api.Cmd{Op: api.OpDelete, H: 1, Key: key})
			case at < 90:
				w.do(api.Cmd{Op: api.OpProbes, H: 1, Key: key})
			default:
				w.do(api.Cmd{Op: api.OpNext, H: 2})
			}
			if n%2000 == 1999 {
				w.do(api.Cmd{Op: api.OpRelease, Hs: []int{w.next - 1}})
				w.do(api.Cmd{Op: api.OpOpen, H: 1, U: 9, V: 9})
				w.do(api.Cmd{Op: api.OpRelease, Hs: []int{w.do(api.Cmd{Op: api.OpClone, H: 1}).N}})
				w.do(api.Cmd{Op: api.OpOpen, H: 1, U: 9, V: 9})
				w.quiet = false
				w.holds("U5: behind many commands")
				w.quiet = true
			}
		}
		w.quiet = false
		w.holds("U7: behind many commands")
		w.do(api.Cmd{Op: api.OpRelease, Hs: w.wantHandles()})
	}
}
