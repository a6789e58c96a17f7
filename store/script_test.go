package store_test

import (
	"fmt"
	"math"
	"math/rand"
	"strings"
	"testing"

	"larder/api"
)

// run: a world, and what is drawn for it.
type run struct {
	w    *world
	r    *rand.Rand
	cmds []api.Cmd // all commands so far, and what they were answered
	told []api.Answer
}

func newRun(t *testing.T, seed, limit int, over []api.Over) *run {
	t.Helper()
	return &run{w: start(t, limit, over...), r: rand.New(rand.NewSource(int64(seed)))}
}

// scripted: the descriptors of scripts: keys of one byte, for which there are overrides.
var scripted = [][]int{{1, 1, 1, 1, 16}, {1, 0, 1, 1, 32}, {1, 9, 1, 1, 64}}

// odd: handles that were not given, or may not have been.
func (r *run) odd() int {
	return []int{0, -1, r.w.next, r.w.next + 1, r.w.next + 50, 1 << 40, math.MaxInt, math.MinInt, 1 - r.w.next, r.w.next - 1, 1}[r.r.Intn(11)]
}

// pick: one of the live ones; nil: there is none.
func (r *run) pick(which func(x *item) bool) *item {
	list := r.w.live(which)
	if len(list) == 0 {
		return nil
	}
	return list[r.r.Intn(len(list))]
}

// handle: a live handle of that kind, mostly; else a dead one, one of the other kind, one that was not given.
func (r *run) handle(which func(x *item) bool) int {
	if r.r.Intn(12) > 0 {
		if x := r.pick(which); x != nil {
			return x.h
		}
	}
	if r.r.Intn(2) == 0 && len(r.w.row) > 0 {
		return r.w.row[r.r.Intn(len(r.w.row))].h
	}
	return r.odd()
}

// width: that of the keys or the elems of the map, mostly; else another.
func (r *run) width(h int, of func(l api.Layout) int) int {
	n := 1
	if x := r.w.item(h); x != nil && isMap(x) {
		n = of(x.m.Layout())
	}
	if r.r.Intn(25) == 0 {
		n = []int{0, n + 1, 2 * n, 300}[r.r.Intn(4)]
	}
	return n
}

func keyWidth(l api.Layout) int  { return l.Key }
func elemWidth(l api.Layout) int { return l.Elem }

// make: a command that makes a map, mostly.
func (r *run) make() api.Cmd {
	c := api.Cmd{Op: api.OpMake, U: r.r.Uint64(), N: []int{0, 0, 0, 8, 9, 15, 60, 120}[r.r.Intn(8)], Fields: scripted[r.r.Intn(len(scripted))]}
	if r.r.Intn(6) == 0 {
		c.Fields = wrongFields[r.r.Intn(len(wrongFields))].fields
	}
	if r.r.Intn(6) == 0 {
		c.N = []int{-1, 4097, math.MinInt, math.MaxInt}[r.r.Intn(4)]
	}
	return c
}

// release: one or more handles; sometimes one that is wrong, or one twice.
func (r *run) release() api.Cmd {
	c := api.Cmd{Op: api.OpRelease}
	for range r.r.Intn(4) {
		h := r.handle(either)
		if r.r.Intn(3) > 0 {
			h = r.handle(isWalk)
		}
		c.Hs = append(c.Hs, h)
	}
	if len(c.Hs) > 0 && r.r.Intn(5) == 0 {
		c.Hs = append(c.Hs, c.Hs[r.r.Intn(len(c.Hs))])
	}
	return c
}

// draw: the next command. Puts come more often in one half of the time, and deletes in the other.
func (r *run) draw(filling bool) api.Cmd {
	if maps := len(r.w.live(isMap)); maps == 0 || maps < 5 && r.r.Intn(25) == 0 {
		return r.make()
	}
	put := 30
	if filling {
		put = 60
	}
	at := r.r.Intn(100)
	c := api.Cmd{Op: api.OpPut, H: r.handle(isMap)}
	switch {
	case at < put:
	case at < 70:
		c.Op = api.OpDelete
	case at < 74:
		c.Op = []int{api.OpGet, api.OpProbes}[r.r.Intn(2)]
	case at < 77:
		c.Op = []int{api.OpLen, api.OpSlots}[r.r.Intn(2)]
		return c
	case at < 90:
		return api.Cmd{Op: api.OpNext, H: r.handle(isWalk)}
	case at < 94:
		return api.Cmd{Op: api.OpOpen, H: c.H, U: r.r.Uint64(), V: r.r.Uint64()}
	case at < 96:
		return r.release()
	case at < 97:
		return api.Cmd{Op: api.OpClear, H: c.H, U: r.r.Uint64()}
	case at < 98 && len(r.w.live(isMap)) < 6:
		return api.Cmd{Op: api.OpClone, H: c.H}
	default:
		return api.Cmd{Op: api.OpLive}
	}
	c.Key = text(r.width(c.H, keyWidth), 1+r.r.Intn(60))
	if c.Op == api.OpPut {
		c.Elem = text(r.width(c.H, elemWidth), r.r.Intn(200))
	}
	return c
}

// goOn: so many commands, and ranges over All among them, if there is one store alone.
func (r *run) goOn(commands int) {
	r.w.t.Helper()
	for i := range commands {
		if len(r.w.live(isWalk)) > 12 {
			r.give(api.Cmd{Op: api.OpRelease, Hs: []int{r.pick(isWalk).h}})
			continue
		}
		r.give(r.draw(i/80%2 == 0))
	}
}

// give: the command is done, and kept.
func (r *run) give(c api.Cmd) {
	r.w.t.Helper()
	a := r.w.do(c)
	r.cmds, r.told = append(r.cmds, c), append(r.told, a)
	r.w.steps[names[c.Op]+" "+fmt.Sprint(a.Err)]++
	if c.Op == api.OpNext && a.Err == api.OK && !a.Yes {
		r.w.steps["a walk at its end"]++
	}
}

// finish: all handles are released, in lists of several, in a drawn order.
func (r *run) finish() {
	r.w.t.Helper()
	for {
		hs := r.w.wantHandles()
		if len(hs) == 0 {
			break
		}
		r.r.Shuffle(len(hs), func(i, j int) { hs[i], hs[j] = hs[j], hs[i] })
		r.w.do(api.Cmd{Op: api.OpRelease, Hs: hs[:1+r.r.Intn(len(hs))]})
	}
	r.w.stays()
	if n := r.w.stores[0].Live(); n != 0 {
		r.w.t.Fatalf("U5: all handles are released, and %d bytes are live", n)
	}
}

// happened: the runs together did each of these so often, or more. (What begins with a given name counts together.)
func happened(t *testing.T, all []map[string]int, times int, wanted ...string) {
	t.Helper()
	for _, name := range wanted {
		sum := 0
		for _, steps := range all {
			for step, n := range steps {
				if strings.HasPrefix(step, name) {
					sum += n
				}
			}
		}
		if sum < times {
			t.Errorf("the runs are too tame: %s: %d times of %d", name, sum, times)
		}
	}
}

// TestScripts: P14.2 to P14.8, P14.10, U1, U2, U4 to U7: long scripts, with much memory and with little, with commands that are refused among them; behind each command all that the store tells, and all bytes of its arena.
func TestScripts(t *testing.T) {
	var all []map[string]int
	t.Run("runs", func(t *testing.T) {
		for i, k := range kinds {
			for n, limit := range []int{900, 4000, 12000, 60000, 1 << 19} {
				r := newRun(t, 10*i+n, limit, k.over())
				all = append(all, r.w.steps)
				t.Run(fmt.Sprint(k.name, ", limit ", limit), func(t *testing.T) {
					t.Parallel()
					r.w.t = t
					r.goOn(3000)
					r.finish()
				})
			}
		}
	})
	happened(t, all, 10, "Make 0", "Make 22", "Make 30", "Make 31", "Make 32", "Make 33", "Make 34", "Make 120", "Clone 0", "Clone 22", "Put 22", "Put 61", "Put 62",
		"Put 140", "Put 141", "Put 142", "Get 0", "Get 140", "Get 141", "Get 142", "Delete 61", "Delete 14", "Len 14", "Clear 0", "Clear 14", "Clone 14",
		"Open 140", "Open 141", "Open 142", "Next 140", "Next 141", "Next 142", "Release 0", "Release 140", "Release 141", "Release 143", "Probes 0", "Slots 0", "a walk at its end")
}
