package image_test

import (
	"fmt"
	"math/rand"
	"testing"

	"larder/api"
	"larder/script"
	"larder/store"
)

// drawer: commands for a store, drawn.
type drawer struct{ *rand.Rand }

func draws(seed int64) drawer { return drawer{rand.New(rand.NewSource(seed))} }

// fields: descriptors of which some are wrong.
var fields = [][]int{{1, 1, 1, 1, 16}, {1, 1, 1, 1, 16}, {1, 0, 1, 1, 32}, {2, 3, 2, 1, 16}, {8, 8, 8, 8, 1024}, {5, 4, 1, 4, 64}, {1, 1, 1, 1, 17}, {1, 1, 1}}

// handle: mostly that of a map, or of a walk; now and then another.
func (d drawer) handle(s *store.Store, walk bool) int {
	hold, hs := s.Hold(), s.Handles()
	switch n := d.Intn(20); {
	case n == 0:
		return d.Intn(hold.Next+2) - 1
	case walk && len(hs) > 0:
		return hs[len(hs)-1-d.Intn(min(3, len(hs)))]
	case len(hold.Maps) > 0:
		return hold.Maps[d.Intn(len(hold.Maps))].Handle
	}
	return 1
}

// keyOf: a key of the map behind the handle, and an elem; now and then of a wrong width.
func (d drawer) keyOf(s *store.Store, h int) (string, string) {
	l := api.Layout{Key: 1, Elem: 1}
	for _, k := range s.Hold().Maps {
		if k.Handle == h {
			l = k.Root.Layout
		}
	}
	if d.Intn(40) == 0 {
		l.Key++
	}
	return key(l.Key, d.Intn(64)), elem(l.Elem, d.Intn(256))
}

// command: for the store as it is now.
func (d drawer) command(s *store.Store) api.Cmd {
	ops := []int{api.OpMake, api.OpGet, api.OpGet, api.OpDelete, api.OpDelete, api.OpDelete, api.OpLen, api.OpClear, api.OpClone, api.OpOpen, api.OpNext, api.OpNext, api.OpNext, api.OpRelease, api.OpLive, api.OpProbes, api.OpSlots, api.OpAudit}
	c := api.Cmd{Op: api.OpPut, U: d.Uint64() >> d.Intn(64), V: d.Uint64() >> d.Intn(64), N: d.Intn(12)}
	if n := d.Intn(3 * len(ops)); n < len(ops) {
		c.Op = ops[n]
	}
	if len(s.Hold().Maps) == 0 && d.Intn(2) == 0 {
		c.Op = api.OpMake
	}
	c.H = d.handle(s, c.Op == api.OpNext)
	c.Key, c.Elem = d.keyOf(s, c.H)
	switch c.Op {
	case api.OpMake:
		c.Fields = fields[d.Intn(len(fields))]
		if d.Intn(4) == 0 {
			c.N = d.Intn(50)
		}
	case api.OpRelease:
		c.Hs = []int{d.handle(s, d.Intn(3) > 0)}
		if d.Intn(8) == 0 {
			c.Hs = append(c.Hs, d.handle(s, true))
		}
	case api.OpClear:
		if d.Intn(3) > 0 {
			c.Op = api.OpLen
		}
	}
	return c
}

// walksOf: the handles of the walks that are not released.
func walksOf(s *store.Store) []int {
	maps := map[int]int{}
	for _, k := range s.Hold().Maps {
		maps[k.Handle] = 1
	}
	var l []int
	for _, h := range s.Handles() {
		if maps[h] == 0 {
			l = append(l, h)
		}
	}
	return l
}

// told: how often each answer was met.
type told map[string]int

func (n told) add(a api.Answer) { n[fmt.Sprint("op ", a.Op, ", error ", a.Err)]++ }

// both: one command for two stores: they answer the same.
func both(t testing.TB, what string, s, u *store.Store, c api.Cmd) api.Answer {
	t.Helper()
	a, b := script.Play(s, c), script.Play(u, c)
	if a != b {
		t.Fatalf("P19.4: %s: %+v: the saved store answers %+v, the loaded one %+v", what, c, a, b)
	}
	return a
}

// alike: two stores are the same, as far as they can be asked without being changed.
func alike(t testing.TB, what string, s, u *store.Store) {
	t.Helper()
	if state(s) != state(u) {
		t.Fatalf("P19.4: %s: the saved store and the loaded one are not alike", what)
	}
}

// again: a script for both stores.
func again(t testing.TB, what string, s, u *store.Store) {
	t.Helper()
	d := draws(int64(len(what)))
	for n := range 60 {
		both(t, what, s, u, d.command(s))
		if n%20 == 19 {
			alike(t, what, s, u)
		}
	}
}

// TestGoesOn: P19.4, U9: behind scripts of every kind a store is saved and loaded; further scripts are answered by both in the same way, and all bytes are the same; so are those of the store that was loaded from the loaded one's image, and so on.
func TestGoesOn(t *testing.T) {
	met := told{}
	t.Run("all", func(t *testing.T) {
		for kind, of := range hashes {
			for _, limit := range []int{1500, 6000, 1 << 19} {
				for seed := range 8 {
					goesOn(t, fmt.Sprint(kind, ", limit ", limit, ", seed ", seed), limit, overs(of), int64(seed), met)
				}
			}
		}
	})
	for _, op := range []int{api.OpMake, api.OpGet, api.OpPut, api.OpDelete, api.OpLen, api.OpClear, api.OpClone, api.OpOpen, api.OpNext, api.OpRelease, api.OpLive, api.OpProbes, api.OpSlots, api.OpAudit} {
		if n := met[fmt.Sprint("op ", op, ", error ", api.OK)]; n < 100 {
			t.Errorf("the test is too tame: the command %d is done %d times", op, n)
		}
	}
	for _, op := range []int{api.OpMake, api.OpPut, api.OpClone} {
		if n := met[fmt.Sprint("op ", op, ", error ", api.ErrMemory)]; n < 20 {
			t.Errorf("the test is too tame: the command %d is refused by ErrMemory %d times", op, n)
		}
	}
}

func goesOn(t *testing.T, what string, limit int, over []api.Over, seed int64, met told) {
	t.Helper()
	d := draws(seed)
	s := begin(t, limit, over...)
	for range 60 + 20*int(seed) {
		script.Play(s, d.command(s))
	}
	for generation := range 4 {
		what := fmt.Sprint(what, ", generation ", generation)
		script.Play(s, api.Cmd{Op: api.OpRelease, Hs: walksOf(s)})
		b := save(t, s)
		u := load(t, b)
		alike(t, what, s, u)
		for n := range 120 {
			met.add(both(t, what, s, u, d.command(s)))
			if n%10 == 9 {
				alike(t, what, s, u)
			}
		}
		s = u // the next one is loaded from the image of the loaded one
	}
	if e := s.Release(s.Handles()...); e != api.OK || s.Live() != 0 {
		t.Fatalf("U9: %s: behind the release of all handles %d bytes are live, error %d", what, s.Live(), e)
	}
}

// TestNothingInCommon: P19.4, W2: what is done to the saved store, or to one that was loaded from its image, is seen in no other.
func TestNothingInCommon(t *testing.T) {
	for i, sh := range shapes {
		s := sh.build(t)
		b := save(t, s)
		stores := []*store.Store{s, load(t, b), load(t, b), load(t, b)}
		for j, u := range stores {
			for k, v := range stores[:j] {
				if u == v || u.Arena() == v.Arena() || u.Oracle() == v.Oracle() {
					t.Fatalf("P19.4: %s: the stores %d and %d share something", sh.name, j, k)
				}
			}
		}
		for j, u := range stores {
			var others []string
			for _, v := range stores[j+1:] {
				others = append(others, state(v))
			}
			d := draws(int64(10*i + j))
			for range 80 {
				script.Play(u, d.command(u))
			}
			for k, v := range stores[j+1:] {
				if state(v) != others[k] {
					t.Fatalf("P19.4: %s: what is done to one store is seen in another", sh.name)
				}
			}
		}
	}
}

// TestWalksGoAlike: P19.4: walks with many draws over the maps of each kind of store, with changes of the map meanwhile.
func TestWalksGoAlike(t *testing.T) {
	pairs := 0
	for _, sh := range shapes {
		s := sh.build(t)
		u := load(t, save(t, s))
		for _, k := range s.Hold().Maps {
			for draw := range uint64(5) {
				w := both(t, sh.name, s, u, api.Cmd{Op: api.OpOpen, H: k.Handle, U: draw << 61, V: draw * 3}).N
				for n := 0; both(t, sh.name, s, u, api.Cmd{Op: api.OpNext, H: w}).Yes; n++ {
					pairs++
					if n%3 == 0 {
						both(t, sh.name, s, u, api.Cmd{Op: api.OpPut, H: k.Handle, Key: key(k.Root.Layout.Key, 200+n), Elem: elem(k.Root.Layout.Elem, n)})
					}
				}
				both(t, sh.name, s, u, api.Cmd{Op: api.OpRelease, Hs: []int{w}})
			}
		}
		alike(t, sh.name, s, u)
	}
	if pairs < 1000 {
		t.Errorf("the test is too tame: %d pairs", pairs)
	}
}

// TestDeadHandles: P19.4: the handles of released maps and walks are dead, the others are what they were, and the next one follows.
func TestDeadHandles(t *testing.T) {
	for _, sh := range shapes {
		s := sh.build(t)
		u := load(t, save(t, s))
		for h := -1; h < s.Hold().Next+3; h++ {
			for _, op := range []int{api.OpLen, api.OpSlots, api.OpNext} {
				both(t, sh.name, s, u, api.Cmd{Op: op, H: h})
			}
		}
		both(t, sh.name, s, u, api.Cmd{Op: api.OpMake, Fields: chapter})
		alike(t, sh.name, s, u)
	}
}
