package larder_test

import (
	"fmt"
	"maps"
	"slices"
	"strings"
	"testing"

	"larder/api"
	"larder/layout"
)

// finite: a store of finite maps, which follows a script by its commands and the answers that were told.
type finite struct {
	t     testing.TB
	what  string
	limit int
	next  int
	maps  map[int]*finiteMap // those that are not released
	walks map[int]*finiteWalk
	met   map[string]int // how often each kind of answer was told
}

type finiteMap struct {
	fields []int
	slot   int // the bytes of a slot
	seed   uint64
	pairs  map[string]string
	peak   int
}

type finiteWalk struct {
	of               int
	lasting, yielded map[string]bool // keys whose life has lasted since the open; keys that were yielded
	still            int             // so many pairs were yielded since the map has changed
}

func newFinite(t testing.TB, what string, limit int) *finite {
	return &finite{t, what, limit, 1, map[int]*finiteMap{}, map[int]*finiteWalk{}, map[string]int{}}
}

func (f *finite) fail(format string, args ...any) {
	f.t.Helper()
	f.t.Fatalf(f.what+": "+format, args...)
}

// followAll: what is told of each command is right.
func (f *finite) followAll(cmds []api.Cmd, told []api.Answer) {
	f.t.Helper()
	if len(cmds) != len(told) {
		f.fail("P22.1: %d answers to %d commands", len(told), len(cmds))
	}
	for i, c := range cmds {
		f.follow(c, told[i])
		f.met[fmt.Sprint("op ", c.Op, ", error ", told[i].Err)]++
	}
}

// follow: U1, U2, U5 to U7: is the answer right? Then the command is done.
func (f *finite) follow(c api.Cmd, a api.Answer) {
	f.t.Helper()
	want := f.want(c)
	switch {
	case want.Err == api.OK && c.Op == api.OpNext:
		f.step(c, a)
	case want.Err == api.OK && (c.Op == api.OpProbes || c.Op == api.OpSlots):
		f.looked(c, a)
	case c.Op == api.OpLive:
		if a.N < 0 || a.N > f.limit || a.N > f.bound() || len(f.maps) == 0 && a.N != 0 {
			f.fail("U5: %d bytes are live, of %d; at most %d may be, with %d maps", a.N, f.limit, f.bound(), len(f.maps))
		}
	case want.Err == api.OK && a.Err == api.ErrMemory && f.mayRefuse(c, want):
		if a != (api.Answer{Op: c.Op, Err: api.ErrMemory}) || f.boundBehind(c) <= f.limit {
			f.fail("U1: %+v answers %+v; U5's sum is %d, the limit %d", c, a, f.boundBehind(c), f.limit)
		}
	case a != want:
		f.fail("U1: %+v answers %+v, finite maps answer %+v", c, a, want)
	case a.Err == api.OK:
		f.do(c)
	}
}

// mayRefuse: W8: can the command need memory?
func (f *finite) mayRefuse(c api.Cmd, want api.Answer) bool {
	return c.Op == api.OpMake || c.Op == api.OpClone || c.Op == api.OpPut && want.Yes
}

// want: the answer of finite maps. (Of next, live, probes and slots it is the error alone.)
func (f *finite) want(c api.Cmd) api.Answer {
	a := api.Answer{Op: c.Op, Err: f.refusal(c)}
	if a.Err != api.OK {
		return a
	}
	switch c.Op {
	case api.OpMake, api.OpClone, api.OpOpen:
		a.N = f.next
	case api.OpGet:
		a.Elem, a.Yes = f.maps[c.H].pairs[c.Key]
	case api.OpPut:
		_, there := f.maps[c.H].pairs[c.Key]
		a.Yes = !there
	case api.OpDelete:
		_, a.Yes = f.maps[c.H].pairs[c.Key]
	case api.OpLen:
		a.N = len(f.maps[c.H].pairs)
	}
	return a
}

// refusal: the error that a command has whatever the memory is.
func (f *finite) refusal(c api.Cmd) api.Errno {
	switch c.Op {
	case api.OpLive, api.OpAudit:
		return api.OK
	case api.OpMake:
		if _, e := layout.Parse(c.Fields...); e != api.OK {
			return e
		}
		if c.N < 0 || c.N > 4096 {
			return api.ErrHint
		}
		return api.OK
	case api.OpRelease:
		return f.releaseRefusal(c.Hs)
	}
	if e := f.handle(c.H, c.Op == api.OpNext); e != api.OK {
		return e
	}
	m := f.maps[c.H]
	switch c.Op {
	case api.OpGet, api.OpDelete, api.OpProbes, api.OpPut:
		if len(c.Key) != m.fields[0] {
			return api.ErrKeyWidth
		}
		if c.Op == api.OpPut && len(c.Elem) != m.fields[1] {
			return api.ErrElemWidth
		}
	}
	return api.OK
}

// handle: the error of a handle, asked for as a walk's or as a map's.
func (f *finite) handle(h int, walk bool) api.Errno {
	_, isMap := f.maps[h]
	_, isWalk := f.walks[h]
	switch {
	case h < 1 || h >= f.next:
		return api.ErrHandle
	case !isMap && !isWalk:
		return api.ErrGone
	case isWalk != walk:
		return api.ErrKind
	}
	return api.OK
}

func (f *finite) releaseRefusal(hs []int) api.Errno {
	for _, h := range hs {
		if e := f.handle(h, true); e != api.OK && e != api.ErrKind {
			return e
		}
	}
	for i, h := range hs {
		if slices.Contains(hs[:i], h) {
			return api.ErrAgain
		}
	}
	return api.OK
}

// do: the command was not refused.
func (f *finite) do(c api.Cmd) {
	switch c.Op {
	case api.OpMake:
		l, _ := layout.Parse(c.Fields...)
		f.give(&finiteMap{c.Fields, l.Slot, c.U, map[string]string{}, c.N})
	case api.OpClone:
		m := f.maps[c.H]
		f.give(&finiteMap{m.fields, m.slot, m.seed, maps.Clone(m.pairs), len(m.pairs)})
	case api.OpOpen:
		w := &finiteWalk{c.H, map[string]bool{}, map[string]bool{}, 0}
		for k := range f.maps[c.H].pairs {
			w.lasting[k] = true
		}
		f.walks[f.next] = w
		f.next++
	case api.OpPut:
		m := f.maps[c.H]
		m.pairs[c.Key] = c.Elem
		m.peak = max(m.peak, len(m.pairs))
		f.changes(c.H)
	case api.OpDelete:
		delete(f.maps[c.H].pairs, c.Key)
		f.changes(c.H, c.Key)
	case api.OpClear:
		m := f.maps[c.H]
		f.changes(c.H, slices.Collect(maps.Keys(m.pairs))...)
		m.pairs, m.seed, m.peak = map[string]string{}, c.U, 0
	case api.OpRelease:
		f.release(c.Hs)
	}
}

func (f *finite) give(m *finiteMap) {
	f.maps[f.next] = m
	f.next++
}

func (f *finite) release(hs []int) {
	for _, h := range hs {
		delete(f.maps, h)
		delete(f.walks, h)
		maps.DeleteFunc(f.walks, func(_ int, w *finiteWalk) bool { return w.of == h })
	}
}

// changes: the map has changed, and the lives of these keys have ended.
func (f *finite) changes(h int, ended ...string) {
	for _, w := range f.walks {
		if w.of != h {
			continue
		}
		w.still = 0
		for _, k := range ended {
			delete(w.lasting, k)
		}
	}
}

// step: U2, U6: a walk's next.
func (f *finite) step(c api.Cmd, a api.Answer) {
	f.t.Helper()
	w := f.walks[c.H]
	m := f.maps[w.of]
	if a == (api.Answer{Op: c.Op}) {
		f.met["done"]++
		for k := range w.lasting {
			if !w.yielded[k] {
				f.fail("U2: walk %d is done; %x was there all the time, and is not yielded", c.H, k)
			}
		}
		return
	}
	f.met["pairs"]++
	elem, there := m.pairs[a.Key]
	if a != (api.Answer{Op: c.Op, Yes: true, Key: a.Key, Elem: elem}) || !there || w.yielded[a.Key] || !w.lasting[a.Key] {
		f.fail("U2: walk %d yields %+v; the map has %x, %v; yielded already: %v; there since the open: %v", c.H, a, elem, there, w.yielded[a.Key], w.lasting[a.Key])
	}
	w.yielded[a.Key] = true
	if w.still++; w.still > len(m.pairs) {
		f.fail("U6: walk %d has yielded %d pairs of a map that does not change, and has %d keys", c.H, w.still, len(m.pairs))
	}
}

// looked: U6: probes and slots.
func (f *finite) looked(c api.Cmd, a api.Answer) {
	f.t.Helper()
	least, most := len(f.maps[c.H].pairs), api.MaxSlots*api.MaxEntries
	if c.Op == api.OpProbes {
		least, most = min(least, 1), api.MaxSlots/8
	}
	if a != (api.Answer{Op: c.Op, N: a.N}) || a.N < least || a.N > most {
		f.fail("U6: %+v answers %+v, of a map of %d keys", c, a, len(f.maps[c.H].pairs))
	}
}

// bound: U5's sum.
func (f *finite) bound() int {
	sum := 8192 * (len(f.maps) + len(f.walks))
	for h, m := range f.maps {
		walks := 0
		for _, w := range f.walks {
			if w.of == h {
				walks++
			}
		}
		sum += m.slot * m.peak * (512 + 8*walks)
	}
	return sum
}

// boundBehind: U5's sum, taken as if the command had been done.
func (f *finite) boundBehind(c api.Cmd) int {
	sum := f.bound()
	switch m := f.maps[c.H]; c.Op {
	case api.OpMake:
		l, _ := layout.Parse(c.Fields...)
		sum += 8192 + l.Slot*c.N*512
	case api.OpClone:
		sum += 8192 + m.slot*len(m.pairs)*512
	case api.OpPut:
		was := m.peak
		m.peak = max(was, len(m.pairs)+1)
		sum = f.bound()
		m.peak = was
	}
	return sum
}

func bytesWord(s string) string {
	if s == "" {
		return "-"
	}
	return fmt.Sprintf("%x", s)
}

// dump: by the words of chapter 22.
func (f *finite) dump(over []api.Over) string {
	var text strings.Builder
	fmt.Fprintf(&text, "limit 2097152\n")
	for _, o := range over {
		fmt.Fprintf(&text, "hash %s %#x\n", bytesWord(o.Key), o.Hash)
	}
	for i, h := range slices.Sorted(maps.Keys(f.maps)) {
		m := f.maps[h]
		fmt.Fprintf(&text, "make %#x 0 %d %d %d %d %d\n", m.seed, m.fields[0], m.fields[1], m.fields[2], m.fields[3], m.fields[4])
		for _, k := range slices.Sorted(maps.Keys(m.pairs)) {
			fmt.Fprintf(&text, "put %d %s %s\n", i+1, bytesWord(k), bytesWord(m.pairs[k]))
		}
	}
	return text.String()
}

// followed: finite maps behind a story, by the answers of Run.
func followed(t testing.TB, s story) *finite {
	t.Helper()
	f := newFinite(t, s.what, s.limit)
	f.followAll(s.cmds, answers(t, ran(t, s.text())))
	return f
}
