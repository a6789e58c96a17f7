package crew_test

import (
	"slices"
	"testing"

	"larder/api"
	"larder/crew"
)

// TestExample1: no jobs; too many, though one of them puts.
func TestExample1(t *testing.T) {
	s := bench(t)
	if l, e := crew.Read(s); len(l) != 0 || e != api.OK {
		t.Errorf("P17.2: Read without jobs = %v, error %d", l, e)
	}
	jobs := make([][]api.Cmd, 17)
	jobs[5] = job(api.Cmd{Op: api.OpPut, H: 1, Key: "c", Elem: "z"})
	if l, e := crew.Read(s, jobs...); l != nil || e != api.ErrReaders {
		t.Errorf("P17.1: Read of 17 jobs = %v, error %d", l, e)
	}
}

// TestExample2: what is no reading command.
func TestExample2(t *testing.T) {
	s := bench(t)
	for _, cs := range [][]api.Cmd{
		{{Op: api.OpPut, H: 1, Key: "c", Elem: "z"}},
		{get(1, "a"), next(1)},
		{next(0)},
		{release(-1, 2)},
		{{Op: api.OpLive}},
		{{Op: api.OpAudit}},
		{{Op: 77}},
	} {
		if l, e := crew.Read(s, cs); l != nil || e != api.ErrWrite {
			t.Errorf("P17.1: Read(%+v) = %v, error %d", cs, l, e)
		}
	}
	if n := s.Hold().Next; n != 2 {
		t.Errorf("P17.1: the next handle is %d", n)
	}
}

// TestExample3: two jobs that ask.
func TestExample3(t *testing.T) {
	reads(t, bench(t), [][]api.Cmd{{get(1, "a"), length(1)}, {get(1, "c"), slots(1)}},
		answers(found("x"), number(api.OpLen, 2)),
		answers(api.Answer{Op: api.OpGet}, number(api.OpSlots, 8)))
}

// TestExample4: two jobs that walk.
func TestExample4(t *testing.T) {
	s := bench(t)
	reads(t, s, [][]api.Cmd{{open(1), next(-1), next(-1), next(-1)}, {open(1), open(1), next(-2)}},
		answers(opened(1), pair("a", "x"), pair("b", "y"), done()),
		answers(opened(1), opened(2), pair("a", "x")))
	if hs, n := s.Handles(), s.Hold().Next; !slices.Equal(hs, []int{1}) || n != 5 {
		t.Errorf("P17.4: the handles are %v, the next one is %d", hs, n)
	}
}

// TestExample5: walks by their numbers.
func TestExample5(t *testing.T) {
	s := bench(t)
	readsOne(t, s, job(next(-1)), wrong(api.OpNext, api.ErrHandle))
	readsOne(t, s, job(open(1), release(-1), next(-1)), opened(1), released(), wrong(api.OpNext, api.ErrGone))
	readsOne(t, s, job(open(1), release(-1, -1), next(-1)), opened(1), wrong(api.OpRelease, api.ErrAgain), pair("a", "x"))
	readsOne(t, s, job(open(1), release(-1, -2)), opened(1), wrong(api.OpRelease, api.ErrHandle))
	readsOne(t, s, job(release()), released())
}

// TestExample6: handles that no job knows, and a key of the wrong width.
func TestExample6(t *testing.T) {
	readsOne(t, bench(t), job(open(1), get(2, "a")), opened(1), wrong(api.OpGet, api.ErrHandle))
	readsOne(t, bench(t), job(get(9, "a"), open(9), open(-1), get(-1, "a"), get(1, "ab")),
		wrong(api.OpGet, api.ErrHandle), wrong(api.OpOpen, api.ErrHandle), wrong(api.OpOpen, api.ErrHandle), wrong(api.OpGet, api.ErrHandle), wrong(api.OpGet, api.ErrKeyWidth))
}
