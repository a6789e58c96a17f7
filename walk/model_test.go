package walk_test

import (
	"math/rand"
	"testing"

	"larder/api"
	"larder/swiss"
	"larder/walk"
)

// TestScripts: P13.2 to P13.8: long scripts of calls over several maps in one arena, with several walks over each, with little memory and with much; behind each call all bytes of the arena.
func TestScripts(t *testing.T) {
	done := make([]steps, len(kinds))
	t.Run("runs", func(t *testing.T) {
		for i, k := range kinds {
			done[i] = steps{}
			t.Run(k.name, func(t *testing.T) {
				t.Parallel()
				for n, limit := range []int{3000, 6000, 12000, 1 << 18} {
					r := &run{r: rand.New(rand.NewSource(int64(100*i + n)))}
					for _, d := range [][5]int{{1, 1, 1, 1, 16}, {1, 0, 1, 1, 32}, {1, 9, 1, 1, 64}} {
						r.lays = append(r.lays, lay(t, d))
					}
					r.w = begin(t, limit, r.lays[0], ask(t, k.over(1)...))
					r.w.g.steps, r.w.brief = done[i], true
					r.goOn(900)
				}
			})
		}
	})
	all := steps{}
	for _, s := range done {
		for name, n := range s {
			all[name] += n
		}
	}
	happened(t, all, 20, "small block", "first table", "doubling", "doubling above the cap", "widening", "low table", "high table", "retirement", "freed behind its last walk")
	happened(t, all, 5, "prune", "first table refused", "doubling refused", "low table refused")
	happened(t, all, 20, "map", "clone", "clear", "release", "a walk at its end", "a walk that was closed", "a range that was left", "a walk over a cleared map", "a walk in a widened directory", "a cell too young", "a retired cell", "a retired cell whose life is over")
}

// run: a world, and what is drawn for it.
type run struct {
	w    *world
	r    *rand.Rand
	lays []api.Layout
}

// goOn: so many calls; at the end all walks are gone through or closed, and all maps released.
func (r *run) goOn(calls int) {
	r.w.t.Helper()
	for i := range calls {
		if len(r.w.maps) == 0 || r.r.Intn(60) == 0 && len(r.w.maps) < 4 {
			r.count("map", r.w.make(r.lays[r.r.Intn(len(r.lays))], r.r.Uint64(), []int{0, 0, 0, 0, 9, 15, 60, 120}[r.r.Intn(8)]))
			continue
		}
		x := r.w.maps[r.r.Intn(len(r.w.maps))]
		switch {
		case r.r.Intn(2) == 0:
			r.walk(x)
		default:
			r.call(x, i/60%2 == 0)
		}
		if i%20 == 0 {
			for _, x := range r.w.maps {
				r.w.tells("P13.8: behind many calls", x)
			}
		}
	}
	for len(r.w.walks) > 0 {
		r.ends(r.w.walks[r.r.Intn(len(r.w.walks))])
	}
	for len(r.w.maps) > 0 {
		r.w.unpinned(r.w.maps[0])
		r.w.release(r.w.maps[0])
	}
}

// count: whether a map was made.
func (r *run) count(name string, x *pair) {
	if x == nil {
		name += " refused"
	}
	r.w.g.steps[name]++
}

// call: one call of one map; puts come in rows, so that maps grow, and deletes too.
func (r *run) call(x *pair, filling bool) {
	r.w.t.Helper()
	put := 45
	if filling {
		put = 80
	}
	rows := 1 + r.r.Intn(6)
	switch at := r.r.Intn(100); {
	case at < put:
		for range rows {
			r.w.put(x, 1+r.r.Intn(50), r.r.Intn(200))
		}
	case at < 94:
		for range rows {
			r.w.delete(x, 1+r.r.Intn(50))
		}
	case at < 96:
		r.w.clear(x, r.r.Uint64())
		r.w.g.steps["clear"]++
	case at < 97:
		r.w.release(x)
		r.w.g.steps["release"]++
	case at < 98 && len(r.w.maps) < 4:
		r.count("clone", r.w.clone(x))
	default:
		r.w.put(x, 1+r.r.Intn(50), r.r.Intn(200))
	}
}

// walk: a walk over the map is opened, or one of its walks goes on, is ranged over, is closed.
func (r *run) walk(x *pair) {
	r.w.t.Helper()
	list := r.w.over(x)
	if len(list) == 0 || len(list) < 5 && r.r.Intn(6) == 0 {
		r.w.open(x, r.r.Uint64(), r.r.Uint64())
		return
	}
	s := list[r.r.Intn(len(list))]
	switch at := r.r.Intn(20); {
	case at == 0:
		r.ends(s)
	case at < 3:
		if n := 1 + r.r.Intn(6); r.w.rest(s, s.w.Rest(), n, nil) == n {
			r.w.g.steps["a range that was left"]++
		}
	default:
		for range 1 + r.r.Intn(4) {
			r.w.next(s)
		}
	}
	if s.done {
		r.w.g.steps["a walk at its end"]++
	}
}

// ends: the walk is closed, or gone through to its end.
func (r *run) ends(s *stroll) {
	r.w.t.Helper()
	if r.r.Intn(2) == 0 {
		r.w.through(s)
		return
	}
	r.w.close(s)
	r.w.g.steps["a walk that was closed"]++
}

// TestManyKeys: P13.6, P13.7, P13.8: maps of thousands of keys that come and go while walks are under way, against plain lists alone.
func TestManyKeys(t *testing.T) {
	for i, limit := range []int{16, 64, 256, 1024} {
		l := lay(t, [5]int{2, 3, 1, 1, limit})
		m, e := swiss.Make(fresh(t, 1<<21), l, ask(t), 77, 0)
		answers(t, "Make", e, api.OK)
		w := &world{t: t, quiet: true, g: &ground{steps: steps{}}}
		x := &pair{m, &pmap{l: l, pairs: map[string]string{}}}
		r := rand.New(rand.NewSource(int64(i)))
		most, ended := 0, 0
		for n := range 40000 {
			many(t, w, x, r, n)
			if len(w.walks) < 4 && r.Intn(200) == 0 {
				v, e := walk.Open(m, r.Uint64(), r.Uint64())
				answers(t, "P13.1: Open", e, api.OK)
				s := &stroll{w: v, x: x, lasting: map[string]bool{}, yielded: map[string]bool{}, keys: len(x.p.pairs)}
				for k := range x.p.pairs {
					s.lasting[k] = true
				}
				w.walks = append(w.walks, s)
			}
			for _, s := range w.walks {
				p, yes, e := s.w.Next()
				answers(t, "P13.2: Next", e, api.OK)
				s.nexts++
				w.once("P13.6", s, p, yes)
				if !yes {
					most = max(most, s.keys)
					ended++
					w.stop(s)
					break
				}
			}
		}
		for _, s := range w.walks {
			answers(t, "P13.4: Close", s.w.Close(), api.OK)
		}
		if offs, e := m.Retired(); len(offs) != 0 || e != api.OK || pinsOf(m) != 0 {
			t.Fatalf("P13.8: Retired = %v, error %d, %d pins, and all walks are done", offs, e, pinsOf(m))
		}
		if most < 1000 || ended < 5 {
			t.Errorf("the run is too tame: %d walks came to their end, the greatest map had %d keys", ended, most)
		}
	}
}

// many: one put or delete, and sometimes a clear.
func many(t *testing.T, w *world, x *pair, r *rand.Rand, n int) {
	t.Helper()
	key, elem := text(2, r.Intn(4000)), text(3, n)
	_, there := x.p.pairs[key]
	switch {
	case n%15000 == 14999:
		answers(t, "Clear", x.m.Clear(uint64(n)), api.OK)
		for k := range x.p.pairs {
			w.dies(x, k)
		}
		x.p.pairs = map[string]string{}
	case r.Intn(5) < 3:
		added, e := x.m.Put(key, elem)
		if added == there || e != api.OK {
			t.Fatalf("Put(%q) = %v, error %d", key, added, e)
		}
		x.p.pairs[key] = elem
	default:
		was, e := x.m.Delete(key)
		if was != there || e != api.OK {
			t.Fatalf("Delete(%q) = %v, error %d", key, was, e)
		}
		delete(x.p.pairs, key)
		w.dies(x, key)
	}
}
