package dir_test

import (
	"fmt"
	"math/rand"
	"slices"
	"testing"

	"larder/api"
	"larder/arena"
	"larder/dir"
)

// plain: several directories in one small arena, as lists of words, and what the arena must be.
type plain struct {
	t     *testing.T
	r     *rand.Rand
	a     *arena.Arena
	want  picture
	dirs  []dir.Dir
	lists map[int][]int // by the block's offset
	tally map[string]int
}

// count: how often each call was done, and how often refused.
func (p *plain) count(name string, e api.Errno) { p.tally[fmt.Sprint(name, " ", int(e))]++ }

// fits: would a block for so many words be taken?
func (p *plain) fits(words int) bool {
	return p.want.live+arena.Class(8*words) <= p.want.limit
}

// keep: a directory that is there from now on.
func (p *plain) keep(d dir.Dir, list []int) {
	p.dirs = append(p.dirs, d)
	p.lists[d.Off()] = list
}

// forget: a directory that is there no more.
func (p *plain) forget(d dir.Dir) {
	p.dirs = slices.DeleteFunc(p.dirs, func(x dir.Dir) bool { return x == d })
	delete(p.lists, d.Off())
	p.want.drop(d.Off())
}

func (p *plain) add() {
	list := make([]int, p.r.Intn(70))
	if p.r.Intn(4) > 0 {
		list = make([]int, 1<<p.r.Intn(7))
	}
	for i := range list {
		list[i] = p.r.Intn(5) - 2
	}
	want := api.OK
	if _, fits := powers[len(list)]; !fits {
		want = api.ErrEntries
	} else if !p.fits(len(list)) {
		want = api.ErrMemory
	}
	d, e := dir.New(p.a, list...)
	answers(p.t, "P10.1: New", e, want)
	p.count("New", e)
	if e != api.OK {
		return
	}
	if off := p.want.take(text(list...)); d != dir.At(p.a, off, powers[len(list)]) {
		p.t.Fatalf("P10.1: New of %d: at %d, depth %d, want the offset %d", len(list), d.Off(), d.Depth(), off)
	}
	p.keep(d, list)
}

func (p *plain) place(d dir.Dir) {
	list := p.lists[d.Off()]
	i, run, table := p.r.Intn(len(list)+2)-1, p.r.Intn(d.Depth()+3)-1, int(p.r.Uint64())
	want := api.OK
	if i < 0 || i >= len(list) || run < 0 || run > d.Depth() {
		want = api.ErrPlace
	}
	e := d.Place(i, run, table)
	answers(p.t, "P10.7: Place", e, want)
	p.count("Place", e)
	for k := range list {
		if e == api.OK && sameTop(i, k, run, d.Depth()) {
			list[k] = table
		}
	}
	p.want.lay(d.Off(), list...)
}

func (p *plain) widen(d dir.Dir) {
	list := p.lists[d.Off()]
	want := api.OK
	if d.Depth() == 6 {
		want = api.ErrDepth
	} else if !p.fits(2 * len(list)) {
		want = api.ErrMemory
	}
	w, e := d.Widen()
	answers(p.t, "P10.8: Widen", e, want)
	p.count("Widen", e)
	if e != api.OK {
		return
	}
	var double []int
	for _, x := range list {
		double = append(double, x, x)
	}
	off := p.want.take(text(double...))
	if w != dir.At(p.a, off, d.Depth()+1) {
		p.t.Fatalf("P10.8: Widen: at %d, depth %d, want the offset %d", w.Off(), w.Depth(), off)
	}
	p.forget(d)
	p.keep(w, double)
}

func (p *plain) free(d dir.Dir) {
	e := d.Free()
	answers(p.t, "P10.10: Free", e, api.OK)
	p.count("Free", e)
	p.forget(d)
	answers(p.t, "P10.10: Free again", d.Free(), api.ErrBlock)
}

func (p *plain) read(d dir.Dir) {
	list := p.lists[d.Off()]
	entries(p.t, "P10.4", d, list)
	h := p.r.Uint64()
	i := 0
	for k := range list { // the entry whose share of all hashes this one lies in
		if h/2 >= uint64(k)*(1<<63/uint64(len(list))) {
			i = k
		}
	}
	if k, x, e := d.Pick(h); k != i || x != list[i] || e != api.OK {
		p.t.Fatalf("P10.5: Pick(%#x) = %d, %d, error %d, want %d, %d", h, k, x, e, i, list[i])
	}
	if l := gone(d); !slices.Equal(l, firsts(list)) {
		p.t.Fatalf("P10.9: Tables gives %v, want %v", l, firsts(list))
	}
}

// TestCallByCall: random calls on several directories at once, behind each all bytes of the arena.
func TestCallByCall(t *testing.T) {
	tally := map[string]int{}
	for seed := range 20 {
		p := &plain{t: t, r: rand.New(rand.NewSource(int64(seed))), a: open(t, 1500+seed), lists: map[int][]int{}, tally: tally}
		p.want = look(t, p.a)
		for range 300 {
			if len(p.dirs) == 0 || p.r.Intn(3) == 0 {
				p.add()
			} else {
				d := p.dirs[p.r.Intn(len(p.dirs))]
				do := []func(dir.Dir){p.place, p.place, p.widen, p.free, p.read}
				do[p.r.Intn(len(do))](d)
			}
			like(t, "behind a call", p.a, p.want)
		}
		for _, d := range p.dirs {
			p.read(d)
		}
	}
	for _, what := range []string{"New 0", "New 100", "New 22", "Place 0", "Place 101", "Widen 0", "Widen 81", "Widen 22", "Free 0"} {
		if tally[what] < 50 {
			t.Errorf("the run is too tame: %s: %d times", what, tally[what])
		}
	}
}
