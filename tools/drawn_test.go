package tools_test

import (
	"fmt"
	"iter"
	"math/rand"
	"testing"

	"larder/api"
	"larder/store"
	"larder/tools"
)

// step: a call that is made of one store by a tool, of the other by plain steps. Whatever is drawn is drawn ahead of both.
type step struct {
	what        string
	real, plain func(s *store.Store) (any, api.Errno)
}

// drawStep: some tool, or some change of the store, with handles of which some are wrong.
func drawStep(t *testing.T, s *store.Store, r *rand.Rand) step {
	hs := append(s.Handles(), r.Intn(s.Hold().Next+2)-1)
	any1 := func() int { return hs[r.Intn(len(hs))] }
	g, h := any1(), any1()
	salt, list := r.Intn(256), drawn(r.Intn(20))
	for i := range list {
		list[i].Key = key(1, r.Intn(70))
	}
	if len(list) > 5 && r.Intn(3) == 0 {
		list[r.Intn(len(list))].Elem = ""
	}
	gives := func(s *store.Store) iter.Seq2[string, string] {
		if salt%3 == 0 {
			return s.All(h)
		}
		var ranges, asked int
		return counted(list, &ranges, &asked)
	}
	join := func(k, old, v string) string { return string([]byte{old[0] + v[0] + byte(salt)}) }
	drop := func(k, v string) bool { return (int(k[0])+salt)%3 == 0 }
	switch n := r.Intn(16); n {
	case 0:
		return step{fmt.Sprintf("Copy(%d, %d)", g, h), func(s *store.Store) (any, api.Errno) { return tools.Copy(s, g, h) }, func(s *store.Store) (any, api.Errno) { return plainCopy(t, s, g, h) }}
	case 1:
		return step{fmt.Sprintf("Merge(%d, %d)", g, h), func(s *store.Store) (any, api.Errno) { return tools.Merge(s, g, h, join) }, func(s *store.Store) (any, api.Errno) { return plainMerge(t, s, g, h, join) }}
	case 2:
		return step{fmt.Sprintf("DeleteFunc(%d)", g), func(s *store.Store) (any, api.Errno) { return tools.DeleteFunc(s, g, drop) }, func(s *store.Store) (any, api.Errno) { return plainDelete(s, g, drop) }}
	case 3, 4:
		return step{fmt.Sprintf("Insert(%d)", g), func(s *store.Store) (any, api.Errno) { return tools.Insert(s, g, gives(s)) }, func(s *store.Store) (any, api.Errno) { return plainInsert(s, g, gives(s)) }}
	case 5:
		fields := []int{1, 1, 1, 1, []int{16, 32, 17}[r.Intn(3)]}
		return step{fmt.Sprintf("Collect(%v)", fields), func(s *store.Store) (any, api.Errno) { return tools.Collect(s, uint64(salt), gives(s), fields...) }, func(s *store.Store) (any, api.Errno) {
			return plainCollect(s, uint64(salt), gives(s), fields...)
		}}
	case 6, 7, 8:
		name := []string{union, meet, less}[n-6]
		var list []int
		for range r.Intn(4) {
			list = append(list, any1())
		}
		return step{fmt.Sprintf("%s(%v)", name, list), set(name, list...), func(s *store.Store) (any, api.Errno) { return plainSet(t, s, name, list...) }}
	case 9:
		return step{fmt.Sprintf("Equal(%d, %d)", g, h), func(s *store.Store) (any, api.Errno) { return tools.Equal(s, g, h) }, func(s *store.Store) (any, api.Errno) {
			if e := faultOfAll(t, s, g, h); e != api.OK {
				return false, e
			}
			return text(t, s, g) == text(t, s, h), api.OK
		}}
	case 10:
		return step{fmt.Sprintf("Pairs(%d)", g), func(s *store.Store) (any, api.Errno) { return tools.Pairs(s, g) }, func(s *store.Store) (any, api.Errno) {
			if e := faultOf(s, g); e != api.OK {
				return []api.Pair(nil), e
			}
			return pairsOf(t, s, g), api.OK
		}}
	}
	both := drawChange(r, g, salt)
	return step{"a change", both, both}
}

// drawChange: some change of the store.
func drawChange(r *rand.Rand, h, salt int) func(s *store.Store) (any, api.Errno) {
	wide, n := r.Intn(4) == 0, r.Intn(8)
	return func(s *store.Store) (any, api.Errno) {
		switch {
		case n < 2 && len(s.Handles()) > 8, n == 0:
			return 0, s.Release(h)
		case n < 3 && wide:
			return s.Make(uint64(salt), 0, 1, 2, 1, 1, 16)
		case n < 4:
			return s.Make(uint64(salt), salt%30, 1, 1, 1, 1, 16)
		case n < 6:
			return s.Open(h, uint64(salt), uint64(salt))
		case n == 6:
			return 0, s.Clear(h, uint64(salt))
		}
		p, _, e := s.Next(h)
		return p, e
	}
}

// TestDrawn: tools and changes of the store in turns, drawn, under limits so tight that much is refused, and under wide ones: each answer, and the store behind it, is that of plain steps, byte by byte; the audit finds nothing.
func TestDrawn(t *testing.T) {
	for kind, of := range hashes {
		for _, limit := range []int{1200, 3000, 9000, 1 << 19} {
			t.Run(fmt.Sprint(kind, ", limit ", limit), func(t *testing.T) {
				t.Parallel()
				for seed := range 12 {
					r := rand.New(rand.NewSource(int64(seed)))
					s, u := begin(t, limit, overs(of)...), begin(t, limit, overs(of)...)
					for n := range 90 {
						d := drawStep(t, s, r)
						got, e := d.real(s)
						want, f := d.plain(u)
						if fmt.Sprintf("%q", got) != fmt.Sprintf("%q", want) || e != f {
							t.Fatalf("seed %d, step %d: %s = %s, error %d; want %s, error %d", seed, n, d.what, short(got), e, short(want), f)
						}
						if state(s) != state(u) {
							t.Fatalf("seed %d, step %d: behind %s the store is not what plain steps make of it", seed, n, d.what)
						}
						sound(t, s)
					}
				}
			})
		}
	}
}
