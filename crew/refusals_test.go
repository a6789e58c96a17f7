package crew_test

import (
	"slices"
	"testing"

	"larder/api"
	"larder/crew"
	"larder/store"
)

// refuses: the jobs are refused so, and nothing has changed.
func refuses(t *testing.T, s *store.Store, want api.Errno, jobs ...[]api.Cmd) {
	t.Helper()
	before := state(s)
	if l, e := crew.Read(s, jobs...); l != nil || e != want {
		t.Errorf("P17.1: Read(%+v) = %v, error %d, want nil, error %d", jobs, l, e, want)
	}
	if state(s) != before {
		t.Errorf("P17.1: a refused Read(%+v) has changed the store", jobs)
	}
}

// noReading: commands that are no reading ones, each Op of a script and others.
func noReading() []api.Cmd {
	cs := []api.Cmd{
		{},
		{Op: api.OpMake, U: 7, Fields: chapter},
		{Op: api.OpMake},
		{Op: api.OpPut, H: few, Key: "a", Elem: "z"},
		{Op: api.OpPut, H: -1, Key: "a", Elem: "z"},
		{Op: api.OpDelete, H: few, Key: "a"},
		{Op: api.OpDelete, H: -1, Key: "q"},
		{Op: api.OpClear, H: few},
		{Op: api.OpClear, H: -1},
		{Op: api.OpClone, H: few},
		{Op: api.OpClone, H: -1},
		{Op: api.OpLive},
		{Op: api.OpLive, H: -1},
		{Op: api.OpAudit},
		{Op: api.OpAudit, H: -1},
		release(few), release(0), release(fewWalk), release(most), release(-1, 0), release(0, -1), release(-1, -2, fewWalk, -3), release(-1, -1, nextFree), release(least, 1),
	}
	for _, h := range []int{0, 1, fewWalk, deadWalk, doneWalk, nextFree, 1 << 62, most} {
		cs = append(cs, next(h))
	}
	for _, op := range []int{-1, -2, -9, 15, 16, 77, 1 << 32, 1<<32 + api.OpGet, least, least + api.OpGet, most} {
		cs = append(cs, api.Cmd{Op: op}, api.Cmd{Op: op, H: -1})
	}
	return cs
}

// TestNoReadingAlone: P17.1: each of them alone.
func TestNoReadingAlone(t *testing.T) {
	s := world(t)
	for _, c := range noReading() {
		refuses(t, s, api.ErrWrite, job(c))
	}
}

// TestNoReadingEverywhere: P17.1: each of them at every place of every job, beside jobs that read.
func TestNoReadingEverywhere(t *testing.T) {
	s := world(t)
	reading := [][]api.Cmd{
		{open(few), next(-1), release(-1)},
		{},
		{get(few, "a"), length(many), open(many), next(-1)},
		{probes(many, "b")},
	}
	if _, e := crew.Read(s, reading...); e != api.OK {
		t.Fatalf("P17.2: Read(%+v): error %d", reading, e)
	}
	for _, c := range noReading() {
		for i := range reading {
			for place := range len(reading[i]) + 1 {
				jobs := slices.Clone(reading)
				jobs[i] = slices.Insert(slices.Clone(reading[i]), place, c)
				refuses(t, s, api.ErrWrite, jobs...)
			}
		}
	}
}

// TestNoReadingInTheLast: P17.1: a fault in the sixteenth job, behind many commands; and more than one.
func TestNoReadingInTheLast(t *testing.T) {
	s := world(t)
	jobs := make([][]api.Cmd, 16)
	for i := range jobs {
		jobs[i] = slices.Repeat(job(open(many), get(few, "a")), 50)
	}
	jobs[15] = append(jobs[15], next(fewWalk))
	refuses(t, s, api.ErrWrite, jobs...)
	jobs[0] = append(job(api.Cmd{Op: api.OpClear, H: few}), jobs[0]...)
	refuses(t, s, api.ErrWrite, jobs...)
	jobs[15] = nil
	refuses(t, s, api.ErrWrite, jobs...)
}

// TestManyJobs: P17.1: sixteen are taken, seventeen are not, whatever they hold.
func TestManyJobs(t *testing.T) {
	s := world(t)
	for _, cs := range [][]api.Cmd{nil, {}, {get(few, "a")}, {open(few), next(-1)}, {{Op: api.OpClear, H: few}}, {{Op: 77}}} {
		for _, n := range []int{17, 18, 32, 33, 256, 257, 65536} {
			refuses(t, s, api.ErrReaders, slices.Repeat([][]api.Cmd{cs}, n)...)
		}
	}
	for n := range 17 {
		var want [][]api.Answer
		for range n {
			want = append(want, answers(opened(1), pair("b", "y"), found("x")))
		}
		reads(t, s, slices.Repeat([][]api.Cmd{{{Op: api.OpOpen, H: few, V: 1}, next(-1), get(few, "a")}}, n), want...)
	}
}

// TestBothFaults: P17.1: ErrReaders stands ahead of ErrWrite, wherever the command is.
func TestBothFaults(t *testing.T) {
	s := world(t)
	for i := range 17 {
		jobs := slices.Repeat([][]api.Cmd{{get(few, "a")}}, 17)
		jobs[i] = job(get(few, "a"), api.Cmd{Op: api.OpPut, H: few, Key: "c", Elem: "z"})
		refuses(t, s, api.ErrReaders, jobs...)
		if i < 16 {
			refuses(t, s, api.ErrWrite, jobs[:16]...)
		}
	}
}
