package swiss_test

import (
	"math/rand"
	"slices"
	"testing"

	"larder/api"
	"larder/arena"
	"larder/swiss"
	"larder/table"
)

// TestCallByCall: long scripts of calls over several maps in one arena, of several layouts, with little memory and with much; behind each call all bytes of the arena, and behind many all that P12.15 to P12.19 say.
func TestCallByCall(t *testing.T) {
	done := make([]steps, len(kinds))
	t.Run("runs", func(t *testing.T) {
		for i, k := range kinds {
			done[i] = steps{}
			t.Run(k.name, func(t *testing.T) {
				t.Parallel()
				for n, limit := range []int{3000, 6000, 12000, 1 << 18} {
					r := &run{r: rand.New(rand.NewSource(int64(100*i + n)))}
					for _, d := range [][5]int{{1, 1, 1, 1, 16}, {1, 0, 1, 1, 32}, {1, 9, 1, 1, 64}} {
						r.lays = append(r.lays, lay(t, d))
					}
					r.w = begin(t, limit, r.lays[0], ask(t, k.over(1)...))
					r.w.g.steps, r.w.brief = done[i], true
					r.goOn(700)
				}
			})
		}
	})
	all := steps{}
	for _, s := range done {
		for name, n := range s {
			all[name] += n
		}
	}
	happened(t, all, 20, "small block", "first table", "first directory", "prune", "doubling", "doubling above the cap", "widening", "low table", "high table", "retirement", "freed behind its last pin")
	happened(t, all, 20, "small block refused", "first table refused", "doubling refused", "low table refused", "high table refused")
	happened(t, all, 5, "first directory refused", "widening refused", "doubling above the cap refused")
	happened(t, all, 20, "map", "map refused", "clone", "clone refused", "clear", "release", "a wrong call")
}

// run: a world, and what is drawn for it.
type run struct {
	w    *world
	r    *rand.Rand
	lays []api.Layout
}

// goOn: so many calls.
func (r *run) goOn(calls int) {
	r.w.t.Helper()
	for i := range calls {
		if len(r.w.maps) == 0 || r.r.Intn(40) == 0 && len(r.w.maps) < 5 {
			r.make()
		} else {
			r.call(r.w.maps[r.r.Intn(len(r.w.maps))], i/50%2 == 0)
		}
		if i%10 == 0 {
			for _, x := range r.w.maps {
				r.w.tells("P12.6, P12.7: behind many calls", x)
				r.w.sound(x)
			}
			r.w.ownBlocks()
		}
	}
	for len(r.w.maps) > 0 {
		r.w.release(r.w.maps[r.r.Intn(len(r.w.maps))])
	}
	r.w.ownBlocks()
}

// count: whether a map was made.
func (r *run) count(name string, x *pair) {
	if x == nil {
		name += " refused"
	}
	r.w.g.steps[name]++
}

func (r *run) make() {
	r.w.t.Helper()
	hint := []int{0, 0, 0, 8, 9, 12, 15, 30, 60, 120}[r.r.Intn(10)]
	r.count("map", r.w.make(r.lays[r.r.Intn(len(r.lays))], r.r.Uint64(), hint))
}

// call: one call of one map; puts come in rows, so that maps grow, and deletes too.
func (r *run) call(x *pair, filling bool) {
	r.w.t.Helper()
	key := 1 + r.r.Intn(50)
	put := 30
	if filling {
		put = 60
	}
	switch at := r.r.Intn(100); {
	case at < put:
		for range 1 + r.r.Intn(6) {
			r.w.put(x, key, r.r.Intn(200))
			key = 1 + r.r.Intn(50)
		}
	case at < 70:
		for range 1 + r.r.Intn(6) {
			r.w.delete(x, key)
			key = 1 + r.r.Intn(50)
		}
	case at < 71:
		r.w.clear(x, r.r.Uint64())
		r.w.g.steps["clear"]++
	case at < 72:
		r.w.release(x)
		r.w.g.steps["release"]++
	case at < 74 && len(r.w.maps) < 5:
		r.count("clone", r.w.clone(x))
	case at < 96:
		r.walk(x)
	default:
		r.wrong(x)
	}
}

// walk: a walk steps onto some table or leaves one; more often a retired one is left than stepped on.
func (r *run) walk(x *pair) {
	r.w.t.Helper()
	list := slices.Concat(x.p.current(), x.p.retired, x.p.retired)
	if len(list) == 0 {
		return
	}
	p := list[r.r.Intn(len(list))]
	if _, i := x.p.standing(p.off); i < 0 && r.r.Intn(3) > 0 {
		r.w.pin(x, p.off)
	} else {
		r.w.unpin(x, p.off)
	}
}

// wrong: a call that is refused.
func (r *run) wrong(x *pair) {
	r.w.t.Helper()
	r.w.g.steps["a wrong call"]++
	key, elem := text(x.p.l.Key, 3), text(x.p.l.Elem, 3)
	switch r.r.Intn(6) {
	case 0:
		r.w.refuses(x, "Put", args{key: key + "k", elem: elem + "e"}, api.ErrKeyWidth)
	case 1:
		r.w.refuses(x, "Put", args{key: key, elem: elem + "e"}, api.ErrElemWidth)
	case 2:
		r.w.refuses(x, "Delete", args{}, api.ErrKeyWidth)
	case 3:
		r.w.refuses(x, "Pin", args{off: x.p.off}, api.ErrBlock)
	case 4:
		r.w.refuses(x, "Unpin", args{off: r.r.Intn(1<<20)*16 + 1}, api.ErrBlock)
	case 5:
		r.w.make(x.p.l, 5, []int{-1, 4097}[r.r.Intn(2)])
	}
}

// sound: what holds of a map, asked of its own calls and those of the layers below alone.
func (w *world) sound(x *pair) {
	w.t.Helper()
	n, e := x.m.Len()
	answers(w.t, "P12.15: Len", e, api.OK)
	if n != len(x.p.pairs) {
		w.t.Fatalf("P12.15: Len is %d, want %d", n, len(x.p.pairs))
	}
	st, _ := x.m.Stat()
	births := map[int]string{}
	times := map[string]int{}
	for k, v := range x.m.All() {
		times[k]++
		if elem, there := x.p.pairs[k]; !there || elem != v || times[k] > 1 {
			w.t.Fatalf("P12.15: All gives %q and %q, want %q, %v; for the time %d", k, v, elem, there, times[k])
		}
		c, e := x.m.Cell(k)
		if other, there := births[c.Birth]; there || c.Birth < 0 || c.Birth >= st.Births || e != api.OK {
			w.t.Fatalf("P12.18: the birth of %q is %d, of %d births; that of %q: %v", k, c.Birth, st.Births, other, there)
		}
		births[c.Birth] = k
	}
	if len(times) != n {
		w.t.Fatalf("P12.15: All gives %d pairs, want %d", len(times), n)
	}
	w.ways(x, n)
}

// ways: P12.16 and P12.17 of a wide map.
func (w *world) ways(x *pair, used int) {
	w.t.Helper()
	d, wide, e := x.m.Dir()
	answers(w.t, "P12.7: Dir", e, api.OK)
	if !wide {
		return
	}
	sum, seen := 0, map[int]int{}
	for i := range 1 << d.Depth() {
		off, _ := d.Entry(i)
		tb := table.At(w.a, x.p.l, off)
		st, e := tb.Stat()
		answers(w.t, "P12.16: Stat of a table", e, api.OK)
		first, n, e := d.Run(i, st.Depth)
		answers(w.t, "P12.16: Run of a table", e, api.OK)
		if begins, there := seen[off]; there && begins != first {
			w.t.Fatalf("P12.16: a table of depth %d stands at the runs of %d and %d", st.Depth, begins, first)
		}
		for k := first; k < first+n; k++ {
			if other, _ := d.Entry(k); other != off {
				w.t.Fatalf("P12.16: a table of depth %d stands at entry %d, not at %d", st.Depth, i, k)
			}
		}
		if _, there := seen[off]; !there {
			sum += st.Used
			w.ofOneTable(x, tb, st, uint64(first)>>(d.Depth()-st.Depth))
		}
		seen[off] = first
	}
	if sum != used {
		w.t.Fatalf("P12.16: the tables hold %d keys, the map %d", sum, used)
	}
}

// ofOneTable: its keys share the run's top bits, and no way is longer than its groups.
func (w *world) ofOneTable(x *pair, tb table.Table, st api.TableStat, top uint64) {
	w.t.Helper()
	keys := []string{}
	for _, c := range tb.Cells() {
		h := x.p.of(c.Key)
		if st.Depth > 0 && h>>(64-st.Depth) != top {
			w.t.Fatalf("P12.16: the key %q, hash %#x, lies in the table of depth %d, top bits %d", c.Key, h, st.Depth, top)
		}
		keys = append(keys, c.Key)
	}
	for i := range 60 {
		keys = append(keys, text(x.p.l.Key, i))
	}
	for _, k := range keys {
		h := x.p.of(k)
		if st.Depth > 0 && h>>(64-st.Depth) != top {
			continue
		}
		if n, e := x.m.Probes(k); n < 1 || n > st.Slots/8 || e != api.OK {
			w.t.Fatalf("P12.17: Probes of %q: %d, error %d, of %d groups", k, n, e, st.Slots/8)
		}
	}
}

// ownBlocks: the live blocks are those that the maps' own calls tell, and the strange ones.
func (w *world) ownBlocks() {
	w.t.Helper()
	own := map[int]int{}
	tableBlocks := func(l api.Layout, off int) {
		st, e := table.At(w.a, l, off).Stat()
		answers(w.t, "P12.19: Stat of a table", e, api.OK)
		own[off], own[st.Groups] = 64, arena.Class(st.Slots/8*l.Group)
	}
	for _, x := range w.maps {
		l := x.m.Layout()
		own[x.m.Off()] = 64
		if s, yes, _ := x.m.Small(); yes {
			own[s.Off()] = arena.Class(32 + l.Group)
		}
		if d, yes, _ := x.m.Dir(); yes {
			own[d.Off()] = arena.Class(8 << d.Depth())
			for _, off := range d.Tables() {
				tableBlocks(l, off)
			}
		}
		list, _ := x.m.Retired()
		for _, off := range list {
			if kind, _ := w.a.Load(off, 8); kind == api.KindSmallRetired {
				own[off] = arena.Class(32 + l.Group)
			} else {
				tableBlocks(l, off)
			}
		}
	}
	for off, size := range w.a.Blocks() {
		if _, strange := w.strange[off]; !strange && own[off] != size {
			w.t.Fatalf("P12.19: the block at %d has %d bytes, want %d", off, size, own[off])
		}
		delete(own, off)
	}
	if len(own) > 0 {
		w.t.Fatalf("P12.19: these blocks are not live: %v", own)
	}
}

// TestManyKeys: thousands of keys, with hints and without, against a plain map; what a user sees, and P12.16 to P12.19 at the end.
func TestManyKeys(t *testing.T) {
	for i, hint := range []int{0, 9, 1000, 4096} {
		l := lay(t, [5]int{2, 3, 1, 1, []int{16, 64, 256, 1024}[i]})
		w := begin(t, 1<<21-1<<15, l, ask(t))
		w.quiet = true
		m, e := swiss.Make(w.a, l, w.o, 77, hint)
		answers(t, "P12.1: Make", e, api.OK)
		x := &pair{m, &pmap{l: l, o: w.o, seed: 77, pairs: map[string]string{}}}
		w.maps = append(w.maps, x)
		r := rand.New(rand.NewSource(int64(i)))
		for n := range 30000 {
			key, elem := text(2, r.Intn(6000)), text(3, n)
			_, there := x.p.pairs[key]
			if r.Intn(5) < 3 {
				if added, e := m.Put(key, elem); added == there || e != api.OK {
					t.Fatalf("P12.15: Put(%q) = %v, error %d; it was there: %v", key, added, e, there)
				}
				x.p.pairs[key] = elem
			} else {
				if was, e := m.Delete(key); was != there || e != api.OK {
					t.Fatalf("P12.15: Delete(%q) = %v, error %d, want %v", key, was, e, there)
				}
				delete(x.p.pairs, key)
			}
			if n%10000 == 9999 {
				w.sound(x)
				w.ownBlocks()
			}
		}
		for n := range 6000 {
			key := text(2, n)
			elem, there := x.p.pairs[key]
			if s, yes, e := m.Get(key); s != elem || yes != there || e != api.OK {
				t.Fatalf("P12.15: Get(%q) = %q, %v, error %d, want %q, %v", key, s, yes, e, elem, there)
			}
		}
		if len(x.p.pairs) < 1000 {
			t.Errorf("the run is too tame: %d keys are left", len(x.p.pairs))
		}
	}
}
