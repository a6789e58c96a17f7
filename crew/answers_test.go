package crew_test

import (
	"slices"
	"testing"

	"larder/api"
	"larder/crew"
	"larder/store"
)

// asking: a command of each Op that asks a map, on a handle.
func asking(h int, key string) []api.Cmd {
	return job(get(h, key), length(h), probes(h, key), slots(h), open(h))
}

// allWrong: each of them is answered by one error.
func allWrong(e api.Errno) []api.Answer {
	return answers(wrong(api.OpGet, e), wrong(api.OpLen, e), wrong(api.OpProbes, e), wrong(api.OpSlots, e), wrong(api.OpOpen, e))
}

// TestHandles: P17.2: each Op with a handle of every kind.
func TestHandles(t *testing.T) {
	s := world(t)
	readsOne(t, s, asking(few, "a"), found("x"), number(api.OpLen, 2), number(api.OpProbes, 1), number(api.OpSlots, 8), opened(1))
	readsOne(t, world(t), asking(bare, "a"), api.Answer{Op: api.OpGet}, number(api.OpLen, 0), number(api.OpProbes, 0), number(api.OpSlots, 0), opened(1))
	for _, h := range []int{deadMap, deadWalk, lostWalk} {
		readsOne(t, world(t), asking(h, "a"), allWrong(api.ErrGone)...)
	}
	for _, h := range []int{fewWalk, manyWalk, grownWalk, doneWalk} {
		readsOne(t, world(t), asking(h, "a"), allWrong(api.ErrKind)...)
	}
	for _, h := range []int{nextFree, nextFree + 1, nextFree + 100, 1 << 31, 1 << 32, 1<<32 + few, 1 << 62, most, 0, -1, -2, -few, -1 << 62, least + 1, least, least + few} {
		readsOne(t, world(t), asking(h, "a"), allWrong(api.ErrHandle)...)
	}
}

// TestHandleAheadOfKey: P17.2: the handle's error stands ahead of the key's.
func TestHandleAheadOfKey(t *testing.T) {
	s := world(t)
	for _, key := range []string{"", "ab", "abc"} {
		for h, e := range map[int]api.Errno{few: api.ErrKeyWidth, bare: api.ErrKeyWidth, deadMap: api.ErrGone, fewWalk: api.ErrKind, nextFree: api.ErrHandle, 0: api.ErrHandle, -1: api.ErrHandle, least: api.ErrHandle} {
			readsOne(t, s, job(get(h, key), probes(h, key)), wrong(api.OpGet, e), wrong(api.OpProbes, e))
		}
	}
}

// TestKnownByNow: P17.2: what a job opens is known by its number alone: neither this job nor another knows the store's handle, also where it was given ahead of the asking; the next Read does.
func TestKnownByNow(t *testing.T) {
	s := world(t)
	cs := job(open(few), open(many), open(few))
	for h := nextFree; h < nextFree+3; h++ {
		cs = append(cs, asking(h, "a")...)
	}
	want := answers(opened(1), opened(2), opened(3))
	for range 3 {
		want = append(want, allWrong(api.ErrHandle)...)
	}
	reads(t, s, [][]api.Cmd{cs, cs, cs}, want, want, want)
	for h := nextFree; h < nextFree+9; h++ {
		readsOne(t, s, job(get(h, "a"), length(h), probes(h, "a"), slots(h), open(h)), allWrong(api.ErrGone)...)
	}
	readsOne(t, s, asking(nextFree+9, "a"), allWrong(api.ErrHandle)...)
}

// TestNextHandleOfARestored: P17.2: the next handle is the store's, however great.
func TestNextHandleOfARestored(t *testing.T) {
	for _, n := range []int{2, 77, 1 << 40, 1 << 62} {
		from := bench(t)
		hold := from.Hold()
		hold.Next = n
		s, e := store.Restore(hold, from.Arena())
		if e != api.OK {
			t.Fatalf("Restore: error %d", e)
		}
		reads(t, s, [][]api.Cmd{{get(n-1, "a"), get(n, "a"), get(n+1, "a"), open(1), get(n, "a"), next(-1)}},
			answers(atLast(n), wrong(api.OpGet, api.ErrHandle), wrong(api.OpGet, api.ErrHandle), opened(1), wrong(api.OpGet, api.ErrHandle), pair("a", "x")))
	}
}

// atLast: what a get of the handle ahead of n answers in a store whose only live handle is 1.
func atLast(n int) api.Answer {
	if n == 2 {
		return found("x")
	}
	return wrong(api.OpGet, api.ErrGone)
}

// TestOwnWalks: P17.2: by their numbers, ahead of their opening, released, named twice.
func TestOwnWalks(t *testing.T) {
	n, r := api.OpNext, api.OpRelease
	for _, c := range []struct {
		cmds []api.Cmd
		want []api.Answer
	}{
		{job(next(-1), open(1), next(-1), next(-2), open(1), next(-2), next(-3), next(-1), next(-1)),
			answers(wrong(n, api.ErrHandle), opened(1), pair("a", "x"), wrong(n, api.ErrHandle), opened(2), pair("a", "x"), wrong(n, api.ErrHandle), pair("b", "y"), done())},
		{job(release(-1), open(1), release(-1), release(-1), next(-1), open(1), next(-1), next(-2), release(-2), next(-2)),
			answers(wrong(r, api.ErrHandle), opened(1), released(), wrong(r, api.ErrGone), wrong(n, api.ErrGone), opened(2), wrong(n, api.ErrGone), pair("a", "x"), released(), wrong(n, api.ErrGone))},
		{job(open(1), open(1), open(1), next(-1), next(-2), next(-3), release(-3, -1), next(-1), next(-2), next(-3), release(-2, -3), next(-2), release(-2), next(-2)),
			answers(opened(1), opened(2), opened(3), pair("a", "x"), pair("a", "x"), pair("a", "x"), released(), wrong(n, api.ErrGone), pair("b", "y"), wrong(n, api.ErrGone), wrong(r, api.ErrGone), done(), released(), wrong(n, api.ErrGone))},
		{job(open(1), open(1), release(-1, -2, -1), release(-2, -2, -1), next(-1), next(-2), release(-2, -1), next(-1), next(-2)),
			answers(opened(1), opened(2), wrong(r, api.ErrAgain), wrong(r, api.ErrAgain), pair("a", "x"), pair("a", "x"), released(), wrong(n, api.ErrGone), wrong(n, api.ErrGone))},
		{job(open(2), next(-1), open(1), next(-1), open(0), open(1), next(-2)), // a refused one has no number
			answers(wrong(api.OpOpen, api.ErrHandle), wrong(n, api.ErrHandle), opened(1), pair("a", "x"), wrong(api.OpOpen, api.ErrHandle), opened(2), pair("a", "x"))},
		{job(open(1), next(-1), next(-1), next(-1), next(-1), release(-1), next(-1)), // done is not released
			answers(opened(1), pair("a", "x"), pair("b", "y"), done(), done(), released(), wrong(n, api.ErrGone))},
		{job(release(), open(1), release(), next(-1), release(), release(-1), release()),
			answers(released(), opened(1), released(), pair("a", "x"), released(), released(), released())},
	} {
		readsOne(t, bench(t), c.cmds, c.want...)
	}
}

// TestReleaseFaults: P17.2: the first number that is not opened or released says the error, and only then a number that stands twice does; none is released then.
func TestReleaseFaults(t *testing.T) {
	begun := job(open(1), open(1), open(1), release(-2)) // -2 is released, -4 is not opened
	for _, c := range []struct {
		numbers []int
		want    api.Errno
	}{
		{[]int{-2}, api.ErrGone}, {[]int{-4}, api.ErrHandle},
		{[]int{-2, -4}, api.ErrGone}, {[]int{-4, -2}, api.ErrHandle},
		{[]int{-1, -2, -4}, api.ErrGone}, {[]int{-1, -4, -2}, api.ErrHandle}, {[]int{-3, -1, -4}, api.ErrHandle},
		{[]int{-1, -1}, api.ErrAgain}, {[]int{-3, -1, -3}, api.ErrAgain}, {[]int{-3, -1, -1}, api.ErrAgain},
		{[]int{-1, -1, -2}, api.ErrGone}, {[]int{-1, -1, -4}, api.ErrHandle}, {[]int{-2, -2}, api.ErrGone}, {[]int{-4, -4}, api.ErrHandle},
		{[]int{-1, -3, least}, api.ErrHandle}, {[]int{-1, -1, least + 1}, api.ErrHandle}, {[]int{-2, least}, api.ErrGone}, {[]int{least, -2}, api.ErrHandle},
		{[]int{-1 << 32, -2}, api.ErrHandle}, {[]int{-1<<32 - 1, -2}, api.ErrHandle}, {[]int{-1, -3, -2}, api.ErrGone},
	} {
		cs := append(slices.Clone(begun), release(c.numbers...), next(-1), next(-3), release(-3, -1), next(-1))
		readsOne(t, bench(t), cs, opened(1), opened(2), opened(3), released(), wrong(api.OpRelease, c.want),
			pair("a", "x"), pair("a", "x"), released(), wrong(api.OpNext, api.ErrGone))
	}
}

// TestLeastNumbers: P17.2: numbers at the low end name no walk.
func TestLeastNumbers(t *testing.T) {
	for _, n := range []int{least, least + 1, least + 2, -1 << 62, -1<<62 - 1, -1<<62 + 1, -1 << 32, -1<<32 - 1, -1 << 31, -1 << 16, -1 << 8, -3} {
		readsOne(t, bench(t), job(open(1), open(1), next(n), release(n), release(-1, n), next(-1), next(n)),
			opened(1), opened(2), wrong(api.OpNext, api.ErrHandle), wrong(api.OpRelease, api.ErrHandle), wrong(api.OpRelease, api.ErrHandle), pair("a", "x"), wrong(api.OpNext, api.ErrHandle))
	}
}

// TestManyWalks: P17.2: a job with hundreds of walks, each by its number.
func TestManyWalks(t *testing.T) {
	const walks = 600
	var cs []api.Cmd
	var want []api.Answer
	for k := range walks {
		cs = append(cs, open(1))
		want = append(want, opened(k+1))
	}
	for k := 1; k <= walks; k += 7 {
		cs = append(cs, next(-k), release(-k))
		want = append(want, pair("a", "x"), released())
	}
	for k := 1; k <= walks; k++ {
		cs = append(cs, next(-k))
		if k%7 == 1 {
			want = append(want, wrong(api.OpNext, api.ErrGone))
		} else {
			want = append(want, pair("a", "x"))
		}
	}
	cs = append(cs, next(-walks-1))
	want = append(want, wrong(api.OpNext, api.ErrHandle))
	reads(t, bench(t), [][]api.Cmd{cs, cs}, want, want)
}

// TestDraws: P17.2: an open's draws are handed to the store.
func TestDraws(t *testing.T) {
	for u := range uint64(9) {
		for v := range uint64(33) {
			s := world(t)
			h, _ := s.Open(many, u<<61, v)
			var want []api.Answer
			for range 61 {
				p, yes, _ := s.Next(h)
				want = append(want, api.Answer{Op: api.OpNext, Yes: yes, Key: p.Key, Elem: p.Elem})
			}
			cs := append(job(api.Cmd{Op: api.OpOpen, H: many, U: u << 61, V: v}), slices.Repeat(job(next(-1)), 61)...)
			got, e := crew.Read(world(t), cs)
			if e != api.OK || !slices.Equal(got[0], append(answers(opened(1)), want...)) {
				t.Fatalf("P17.2: a walk with the draws %d and %d: %+v, error %d, want %+v", u<<61, v, got, e, want)
			}
		}
	}
}

// TestUnused: P17.2: what an Op does not use is not looked at.
func TestUnused(t *testing.T) {
	cs := job(open(few), get(few, "b"), length(many), probes(grown, "q"), slots(many), next(-1), get(nextFree, "a"), next(-2), release(-1, -2), release(-1, -1), release(-1), next(-1))
	plain, e := crew.Read(world(t), cs)
	if e != api.OK {
		t.Fatalf("P17.2: Read(%+v): error %d", cs, e)
	}
	for _, junk := range []api.Cmd{
		{H: least, N: most, U: 1 << 63, V: 1, Key: "long", Elem: "longer", Fields: []int{1}, Hs: []int{1}},
		{H: most, N: least, U: 7, V: 9, Elem: "x", Fields: []int{}, Hs: []int{}},
		{H: few, N: -1, Key: "a", Fields: []int{0, 0}, Hs: []int{-9, 0}},
		{H: -1, N: 1, Fields: nil, Hs: []int{least, most}},
	} {
		full := slices.Clone(cs)
		for i, c := range cs {
			full[i] = filled(c, junk)
		}
		readsOne(t, world(t), full, plain[0]...)
	}
}

// filled: the command, and junk wherever its Op uses nothing.
func filled(c, junk api.Cmd) api.Cmd {
	junk.Op = c.Op
	if c.Op == api.OpRelease {
		junk.Hs = c.Hs
		return junk
	}
	junk.H = c.H
	switch c.Op {
	case api.OpGet, api.OpProbes:
		junk.Key = c.Key
	case api.OpOpen:
		junk.U, junk.V = c.U, c.V
	}
	return junk
}

// TestEmptyJobs: P17.2: no jobs; jobs without commands, alone and beside others.
func TestEmptyJobs(t *testing.T) {
	s := world(t)
	reads(t, s, nil)
	reads(t, s, [][]api.Cmd{})
	reads(t, s, [][]api.Cmd{nil}, nil)
	reads(t, s, [][]api.Cmd{{}, nil, {}}, nil, nil, nil)
	reads(t, s, make([][]api.Cmd, 16), make([][]api.Answer, 16)...)
	reads(t, s, [][]api.Cmd{nil, {length(few)}, {}, {length(bare)}, nil}, nil, answers(number(api.OpLen, 2)), nil, answers(number(api.OpLen, 0)), nil)
}
