package crew_test

import (
	"testing"

	"larder/api"
	"larder/crew"
	"larder/store"
)

// plainReader: a job played by the chapter's words, command by command, on a store that nobody else has: by the store's own calls.
type plainReader struct {
	s       *store.Store
	next    int         // the next handle that was found
	handles map[int]int // of the walks, by the number under which the job knows them
	gone    map[int]bool
}

// plainly: the answers to a job that is played alone; its walks are released.
func plainly(s *store.Store, cs []api.Cmd) []api.Answer {
	p := plainReader{s: s, next: s.Hold().Next, handles: map[int]int{}, gone: map[int]bool{}}
	var list []api.Answer
	for _, c := range cs {
		a := p.answer(c)
		if a.Err != api.OK {
			a = api.Answer{Err: a.Err}
		}
		a.Op = c.Op
		list = append(list, a)
	}
	for n, h := range p.handles {
		if !p.gone[n] {
			s.Release(h)
		}
	}
	return list
}

func (p *plainReader) answer(c api.Cmd) (a api.Answer) {
	if c.Op != api.OpNext && c.Op != api.OpRelease && !(0 < c.H && c.H < p.next) {
		return api.Answer{Err: api.ErrHandle}
	}
	switch c.Op {
	case api.OpGet:
		a.Elem, a.Yes, a.Err = p.s.Get(c.H, c.Key)
	case api.OpLen:
		a.N, a.Err = p.s.Len(c.H)
	case api.OpProbes:
		a.N, a.Err = p.s.Probes(c.H, c.Key)
	case api.OpSlots:
		a.N, a.Err = p.s.Slots(c.H)
	case api.OpOpen:
		h, e := p.s.Open(c.H, c.U, c.V)
		if a.Err = e; e == api.OK {
			a.N = -1 - len(p.handles)
			p.handles[a.N] = h
		}
	case api.OpNext:
		if a.Err = p.named(c.H); a.Err == api.OK {
			var got api.Pair
			got, a.Yes, a.Err = p.s.Next(p.handles[c.H])
			a.Key, a.Elem = got.Key, got.Elem
		}
	case api.OpRelease:
		a.Err = p.release(c.Hs)
	}
	return a
}

func (p *plainReader) named(n int) api.Errno {
	if p.gone[n] {
		return api.ErrGone
	}
	if _, there := p.handles[n]; !there {
		return api.ErrHandle
	}
	return api.OK
}

func (p *plainReader) release(ns []int) api.Errno {
	for _, n := range ns {
		if e := p.named(n); e != api.OK {
			return e
		}
	}
	times := map[int]int{}
	for _, n := range ns {
		if times[n]++; times[n] > 1 {
			return api.ErrAgain
		}
	}
	for _, n := range ns {
		p.s.Release(p.handles[n])
		p.gone[n] = true
	}
	return api.OK
}

// handle: one that a command may name, mostly of the world's.
func (d drawer) handle() int {
	switch d.Intn(8) {
	case 0:
		return d.oneOf(0, -1, -2, nextFree, nextFree+1, nextFree+5, least, most, 1<<62, -1<<62)
	case 1:
		return d.Intn(nextFree + 4)
	}
	return d.oneOf(few, many, bare, grown, many)
}

// walk: the number of a job's walk, mostly of one that it may have.
func (d drawer) walk() int {
	if d.Intn(12) == 0 {
		return d.oneOf(least, least+1, -1<<62, -1<<62-1, -1<<32-1, -100)
	}
	return -1 - d.Intn(5)
}

// command: a reading one.
func (d drawer) command() api.Cmd {
	c := api.Cmd{H: d.handle(), Key: key(d.Intn(70)), U: d.Uint64(), V: d.Uint64(), N: d.handle(), Elem: "e"}
	if d.Intn(20) == 0 {
		c.Key = []string{"", "ab"}[d.Intn(2)]
	}
	c.Op = d.oneOf(api.OpGet, api.OpLen, api.OpProbes, api.OpSlots, api.OpOpen, api.OpOpen, api.OpNext, api.OpNext, api.OpNext, api.OpNext, api.OpNext, api.OpRelease)
	if c.Op == api.OpNext {
		c.H = d.walk()
	}
	if c.Op == api.OpRelease {
		for range d.oneOf(0, 1, 1, 2, 3) {
			c.Hs = append(c.Hs, d.walk())
		}
	}
	return c
}

func (d drawer) job() []api.Cmd {
	var cs []api.Cmd
	for range d.oneOf(0, 1, 3, 20, 60, 120) {
		cs = append(cs, d.command())
	}
	return cs
}

func (d drawer) jobs(n int) [][]api.Cmd {
	jobs := make([][]api.Cmd, n)
	for i := range jobs {
		jobs[i] = d.job()
	}
	return jobs
}

// alone: what each job is answered by itself, each on a world of its own, by the chapter's words.
func alone(t testing.TB, jobs [][]api.Cmd) [][]api.Answer {
	t.Helper()
	var want [][]api.Answer
	for _, cs := range jobs {
		want = append(want, plainly(world(t), cs))
	}
	return want
}

// TestPlainly: P17.2: drawn jobs, one at a time, against the chapter's words.
func TestPlainly(t *testing.T) {
	kinds := map[api.Errno]int{}
	for seed := range int64(300) {
		cs := draws(seed).job()
		want := plainly(world(t), cs)
		readsOne(t, world(t), cs, want...)
		for _, a := range want {
			kinds[a.Err]++
		}
	}
	for _, e := range []api.Errno{api.OK, api.ErrHandle, api.ErrGone, api.ErrKind, api.ErrAgain, api.ErrKeyWidth} {
		if kinds[e] < 10 {
			t.Errorf("the drawn jobs have error %d only %d times", e, kinds[e])
		}
	}
}

// TestPlainlyOnOne: P17.2, P17.4: one Read behind the other on one store: each finds it as the last has left it.
func TestPlainlyOnOne(t *testing.T) {
	s, other := world(t), world(t)
	for seed := range int64(60) {
		jobs := draws(1000 + seed).jobs(int(seed % 4))
		got, e := crew.Read(s, jobs...)
		if e != api.OK {
			t.Fatalf("P17.2: Read: error %d", e)
		}
		// The jobs of one Read know the same handles; alone, one behind the other, a job would know those of the walks ahead of it.
		var want [][]api.Answer
		was := other.Hold().Next
		for _, cs := range jobs {
			want = append(want, plainlyKnowing(other, was, cs))
		}
		if bad := unlike(got, want); bad != "" {
			t.Fatalf("P17.2: seed %d: Read(%s): %s", seed, short(jobs), bad)
		}
		if state(s) != state(other) {
			t.Fatalf("P17.4: seed %d: behind Read the store is another than behind the jobs one by one", seed)
		}
	}
}

// plainlyKnowing: as plainly, with only the handles below next known.
func plainlyKnowing(s *store.Store, next int, cs []api.Cmd) []api.Answer {
	low := make([]api.Cmd, len(cs))
	for i, c := range cs {
		low[i] = c
		if c.H >= next && c.Op != api.OpNext {
			low[i].H = 0
		}
	}
	return plainly(s, low)
}
