package store_test

import (
	"fmt"
	"maps"
	"slices"
	"testing"

	"larder/api"
	"larder/arena"
	"larder/layout"
	"larder/oracle"
	"larder/store"
	"larder/swiss"
	"larder/table"
	"larder/walk"
)

// world: stores that are given the same commands, and what they must be like: a plain row of handles, behind them maps and walks of the layers below in an arena of their own, and beside each map a finite one.
type world struct {
	t      *testing.T
	stores []*store.Store
	a      *arena.Arena
	o      *oracle.Oracle
	over   []api.Over
	next   int
	row    []*item // all that were given, dead or not
	ranges []*item // the walks of ranges over All, which have no handles
	steps  map[string]int
	told   []told
	quiet  bool // the stores are not looked at behind each command
}

// item: a map, or a walk over one.
type item struct {
	h    int
	dead bool

	m     swiss.Map
	pairs map[string]string
	peak  int

	w                *walk.Walk // nil: it is a map
	of               *item
	lasting, yielded map[string]bool // keys whose life has lasted since the open; keys that were yielded
	keys, nexts      int             // how many keys there were at the open; how many steps were taken
}

// told: lists that a store has told, and what they were then.
type told struct {
	handles, wasHandles []int
	roots, wasRoots     []api.Root
	hold, wasHold       api.Hold
}

// start: a world with one store without maps.
func start(t *testing.T, limit int, over ...api.Over) *world {
	t.Helper()
	w := &world{t: t, over: slices.Clone(over), next: 1, steps: map[string]int{}}
	given := append(slices.Clone(over), api.Over{Key: "spare room", Hash: 77})
	w.stores = append(w.stores, begin(t, limit, given[:len(over)]...))
	if !slices.Equal(given[:len(over)], over) || given[len(over)] != (api.Over{Key: "spare room", Hash: 77}) {
		t.Fatal("W3: New has changed the list of overrides")
	}
	for i := range given { // a store that kept the list would be seen
		given[i] = api.Over{Key: "spoilt", Hash: 1}
	}
	var e api.Errno
	w.a, e = arena.New(limit)
	answers(t, "arena.New", e, api.OK)
	w.o, e = oracle.New(over...)
	answers(t, "oracle.New", e, api.OK)
	return w
}

// item: what was given that handle; nil: it was not given.
func (w *world) item(h int) *item {
	i := slices.IndexFunc(w.row, func(x *item) bool { return x.h == h })
	if i < 0 {
		return nil
	}
	return w.row[i]
}

// live: those that are not dead, in the order in which they were given.
func (w *world) live(which func(x *item) bool) []*item {
	return slices.DeleteFunc(slices.Clone(w.row), func(x *item) bool { return x.dead || !which(x) })
}

func isMap(x *item) bool  { return x.w == nil }
func isWalk(x *item) bool { return x.w != nil }
func either(*item) bool   { return true }

// fault: the error of a handle by the chapter's words.
func (w *world) fault(h int, which func(x *item) bool) api.Errno {
	x := w.item(h)
	switch {
	case x == nil && (h < 1 || h >= w.next):
		return api.ErrHandle
	case x == nil || x.dead:
		return api.ErrGone
	case !which(x):
		return api.ErrKind
	}
	return api.OK
}

// give: the next handle is given.
func (w *world) give(x *item) int {
	x.h = w.next
	w.next++
	w.row = append(w.row, x)
	return x.h
}

// do: the command is given to all stores; each answers what it must, and is like what it must be.
func (w *world) do(c api.Cmd) api.Answer {
	w.t.Helper()
	want := w.want(c)
	what := fmt.Sprintf("%s: %s %#v", promises[c.Op], names[c.Op], c)
	for i, s := range w.stores {
		given := c
		given.Fields, given.Hs = roomy(c.Fields), roomy(c.Hs)
		if got := play(s, given); got != want {
			w.t.Fatalf("%s (store %d) = %#v, want %#v", what, i, got, want)
		}
		if !untouched(given.Fields, c.Fields) || !untouched(given.Hs, c.Hs) {
			w.t.Fatalf("W3: %s has changed a list that was handed in: %v, %v", what, given.Fields, given.Hs)
		}
	}
	w.holds(what)
	return want
}

// fill: the keys of the numbers from one on are put, up to another; the stores are looked at behind the last of them.
func (w *world) fill(h, from, to int) {
	w.t.Helper()
	was := w.quiet
	w.quiet = true
	for i := from; i < to; i++ {
		n := 1
		if x := w.item(h); x != nil && isMap(x) {
			n = x.m.Layout().Elem
		}
		w.do(api.Cmd{Op: api.OpPut, H: h, Key: text(1, i), Elem: text(n, i)})
	}
	w.quiet = was
	w.holds("P14.3: so many puts")
}

// roomy: a copy with room behind it, which is marked.
func roomy(list []int) []int {
	l := append(slices.Clone(list), 4242, 4243)
	return l[:len(list)]
}

func untouched(l, was []int) bool {
	return slices.Equal(l, was) && slices.Equal(l[len(l):len(l)+2], []int{4242, 4243})
}

// want: what a command must answer, by the row of handles and the layers below; and what these answer is held against the finite maps.
func (w *world) want(c api.Cmd) api.Answer {
	w.t.Helper()
	a := api.Answer{Op: c.Op}
	switch c.Op {
	case api.OpMake:
		w.wantMake(c, &a)
		return a
	case api.OpRelease:
		a.Err = w.wantRelease(c.Hs)
		return a
	case api.OpLive:
		a.N = w.a.Live()
		return a
	case api.OpNext:
		if a.Err = w.fault(c.H, isWalk); a.Err == api.OK {
			p, yes := w.wantNext(w.item(c.H))
			a.Key, a.Elem, a.Yes = p.Key, p.Elem, yes
		}
		return a
	}
	if a.Err = w.fault(c.H, isMap); a.Err != api.OK {
		return a
	}
	x := w.item(c.H)
	switch c.Op {
	case api.OpOpen:
		a.N = w.give(w.open(x, c.U, c.V))
	case api.OpClone:
		w.wantClone(x, &a)
	case api.OpClear:
		w.dies(x, slices.Collect(maps.Keys(x.pairs))...)
		clear(x.pairs)
		x.peak = 0
		a.Err = x.m.Clear(c.U)
	case api.OpPut:
		w.wantPut(x, c, &a)
	default:
		w.wantKeys(x, c, &a)
	}
	return a
}

// wantMake: by the words of P14.2.
func (w *world) wantMake(c api.Cmd, a *api.Answer) {
	l, e := layout.Parse(c.Fields...)
	switch {
	case e != api.OK:
		a.Err = e
		return
	case c.N < 0 || c.N > 4096:
		a.Err = api.ErrHint
		return
	}
	x := &item{pairs: map[string]string{}, peak: c.N}
	if x.m, a.Err = swiss.Make(w.a, l, w.o, c.U, c.N); a.Err != api.OK {
		x.m = swiss.At(w.a, l, w.o, 0)
		w.outOfMemory("Make", a.Err, x)
		return
	}
	a.N = w.give(x)
}

func (w *world) wantClone(x *item, a *api.Answer) {
	w.t.Helper()
	c := &item{pairs: maps.Clone(x.pairs), peak: len(x.pairs)}
	if c.m, a.Err = x.m.Clone(); a.Err != api.OK {
		c.m = x.m
		w.outOfMemory("Clone", a.Err, c)
		return
	}
	a.N = w.give(c)
}

func (w *world) wantPut(x *item, c api.Cmd, a *api.Answer) {
	w.t.Helper()
	a.Yes, a.Err = x.m.Put(c.Key, c.Elem)
	_, there := x.pairs[c.Key]
	switch l := x.m.Layout(); {
	case len(c.Key) != l.Key:
		w.same(c, *a, api.Answer{Op: c.Op, Err: api.ErrKeyWidth})
	case len(c.Elem) != l.Elem:
		w.same(c, *a, api.Answer{Op: c.Op, Err: api.ErrElemWidth})
	case a.Err != api.OK && !there:
		was := x.peak
		x.peak = max(x.peak, len(x.pairs)+1)
		w.outOfMemory("Put", a.Err)
		x.peak = was
	default:
		w.same(c, *a, api.Answer{Op: c.Op, Yes: !there})
		x.pairs[c.Key] = c.Elem
		x.peak = max(x.peak, len(x.pairs))
	}
}

// wantKeys: Get, Delete, Len, Probes, Slots.
func (w *world) wantKeys(x *item, c api.Cmd, a *api.Answer) {
	w.t.Helper()
	elem, there := x.pairs[c.Key]
	switch c.Op {
	case api.OpGet:
		a.Elem, a.Yes, a.Err = x.m.Get(c.Key)
	case api.OpDelete:
		a.Yes, a.Err = x.m.Delete(c.Key)
		w.dies(x, c.Key)
		delete(x.pairs, c.Key)
		elem = ""
	case api.OpLen:
		a.N, a.Err = x.m.Len()
		w.same(c, *a, api.Answer{Op: c.Op, N: len(x.pairs)})
		return
	case api.OpSlots:
		a.N, a.Err = x.m.Slots()
		return
	case api.OpProbes:
		a.N, a.Err = x.m.Probes(c.Key)
		elem, there = "", false
	}
	switch {
	case len(c.Key) != x.m.Layout().Key:
		w.same(c, *a, api.Answer{Op: c.Op, Err: api.ErrKeyWidth})
	case c.Op == api.OpProbes:
		w.probes(x, c.Key, a.N)
	default:
		w.same(c, *a, api.Answer{Op: c.Op, Elem: elem, Yes: there})
	}
}

// same: U1: the answer is that of the finite maps.
func (w *world) same(c api.Cmd, got, want api.Answer) {
	w.t.Helper()
	if got != want {
		w.t.Fatalf("U1: %#v: %#v, a finite map answers %#v", c, got, want)
	}
}

// probes: U6: no more groups are looked at than the one table has in which the key is looked for.
func (w *world) probes(x *item, key string, n int) {
	w.t.Helper()
	groups, _ := x.m.Slots()
	groups /= 8
	if d, yes, _ := x.m.Dir(); yes {
		st, _ := x.m.Stat()
		_, off, _ := d.Pick(w.o.Hash(st.Seed, key))
		ts, _ := table.At(w.a, x.m.Layout(), off).Stat()
		groups = ts.Slots / 8
	}
	if n > groups {
		w.t.Fatalf("U6: for %.12q %d groups are looked at, its table has %d", key, n, groups)
	}
}

// wantRelease: by the words of P14.6.
func (w *world) wantRelease(hs []int) api.Errno {
	w.t.Helper()
	for _, h := range hs {
		if e := w.fault(h, either); e != api.OK {
			return e
		}
	}
	for i, h := range hs {
		if slices.Contains(hs[:i], h) {
			return api.ErrAgain
		}
	}
	for _, h := range hs {
		if x := w.item(h); isWalk(x) {
			w.closes(x)
		}
	}
	for _, h := range hs {
		if x := w.item(h); isMap(x) {
			answers(w.t, "swiss: Release", x.m.Release(), api.OK)
			for _, y := range append(slices.Clone(w.row), w.ranges...) {
				y.dead = y.dead || y == x || y.of == x
			}
		}
	}
	return api.OK
}

// closes: a walk's handle is released, or a range over All has ended.
func (w *world) closes(x *item) {
	w.t.Helper()
	answers(w.t, "walk: Close", x.w.Close(), api.OK)
	x.dead = true
}

// open: a walk over the map, which has no handle yet.
func (w *world) open(x *item, one, two uint64) *item {
	w.t.Helper()
	v, e := walk.Open(x.m, one, two)
	answers(w.t, "walk: Open", e, api.OK)
	y := &item{w: v, of: x, lasting: map[string]bool{}, yielded: map[string]bool{}, keys: len(x.pairs)}
	for k := range x.pairs {
		y.lasting[k] = true
	}
	return y
}

// dies: the life of these keys of the map ends.
func (w *world) dies(x *item, keys ...string) {
	for _, y := range append(slices.Clone(w.row), w.ranges...) {
		for _, k := range keys {
			if y.of == x {
				delete(y.lasting, k)
			}
		}
	}
}

// wantNext: a walk's next pair, by the layer below; and U2 by plain lists of keys.
func (w *world) wantNext(y *item) (api.Pair, bool) {
	w.t.Helper()
	p, yes, e := y.w.Next()
	answers(w.t, "walk: Next", e, api.OK)
	y.nexts++
	if !yes {
		for k := range y.lasting {
			if !y.yielded[k] {
				w.t.Fatalf("U2: %.12q was there from the open to the end, and is not yielded", k)
			}
		}
		return p, false
	}
	elem, there := y.of.pairs[p.Key]
	if y.yielded[p.Key] || !y.lasting[p.Key] || !there || elem != p.Elem || y.nexts > y.keys {
		w.t.Fatalf("U2: step %d yields %.12q; yielded already: %v; there since the open: %v; the map has %.12q, %v, and had %d keys at the open",
			y.nexts, p, y.yielded[p.Key], y.lasting[p.Key], elem, there, y.keys)
	}
	y.yielded[p.Key] = true
	return p, true
}

// bound: U5's sum, with another map beside those that are there.
func (w *world) bound(more ...*item) int {
	all := append(w.live(either), more...)
	for _, y := range w.ranges {
		if !y.dead {
			all = append(all, y)
		}
	}
	sum := 8192 * len(all)
	for _, x := range all {
		if isWalk(x) {
			continue
		}
		walks := 0
		for _, y := range all {
			if y.of == x {
				walks++
			}
		}
		sum += x.m.Layout().Slot * x.peak * (512 + 8*walks)
	}
	return sum
}

// outOfMemory: U1: the error is ErrMemory, and only where U5's sum, taken as if the command had been done, is above the limit.
func (w *world) outOfMemory(name string, e api.Errno, more ...*item) {
	w.t.Helper()
	w.steps[name+" refused"]++
	answers(w.t, "U1: "+name, e, api.ErrMemory)
	if b := w.bound(more...); b <= w.a.Limit() {
		w.t.Fatalf("U1: %s is refused by ErrMemory; U5's sum is %d, the limit %d", name, b, w.a.Limit())
	}
}
