package crew_test

import (
	"fmt"
	"math"
	"math/rand"
	"slices"
	"strings"
	"testing"

	"larder/api"
	"larder/crew"
	"larder/store"
)

// chapter: the descriptor of the chapter's examples.
var chapter = []int{1, 1, 1, 1, 16}

const (
	least = math.MinInt
	most  = math.MaxInt
)

func begin(t testing.TB, limit int, over ...api.Over) *store.Store {
	t.Helper()
	s, e := store.New(limit, over...)
	if e != api.OK {
		t.Fatalf("store.New: error %d", e)
	}
	return s
}

// bench: the chapter's store: the map 1 holds a x and b y.
func bench(t testing.TB) *store.Store {
	t.Helper()
	s := begin(t, 65536)
	if h, e := s.Make(7, 0, chapter...); h != 1 || e != api.OK {
		t.Fatalf("Make = %d, error %d", h, e)
	}
	s.Put(1, "a", "x")
	s.Put(1, "b", "y")
	return s
}

// The handles of the world.
const (
	few       = 1  // a map with a small block: a x, b y
	many      = 2  // a map with a directory of several tables: 60 keys
	bare      = 3  // a map without keys
	deadMap   = 4  // a map that is released
	fewWalk   = 5  // a walk that stands on few's block
	manyWalk  = 6  // a walk that stands on a table of many
	deadWalk  = 7  // a walk over few that is released
	grown     = 8  // a map with tables, and with a retired small block
	grownWalk = 9  // a walk that stands on that small block
	doneWalk  = 10 // a walk over few that is done
	lostWalk  = 11 // a walk over deadMap
	nextFree  = 12 // the next handle
)

// world: a store with a handle of every kind; each call makes it anew, just the same.
func world(t testing.TB) *store.Store {
	t.Helper()
	s := begin(t, 1<<20, api.Over{Key: "a", Hash: 5}, api.Over{Key: "b", Hash: 5})
	fine := func(wantHandle, h int, e api.Errno) {
		t.Helper()
		if h != wantHandle || e != api.OK {
			t.Fatalf("the world: handle %d, error %d, want %d", h, e, wantHandle)
		}
	}
	isMap := func(want int, fields ...int) {
		t.Helper()
		h, e := s.Make(uint64(want)*77, 0, fields...)
		fine(want, h, e)
	}
	isWalk := func(want, over, steps int) {
		t.Helper()
		h, e := s.Open(over, 3, 9)
		fine(want, h, e)
		for range steps {
			s.Next(h)
		}
	}
	isMap(few, chapter...)
	s.Put(few, "a", "x")
	s.Put(few, "b", "y")
	isMap(many, 1, 2, 1, 1, 16)
	for i := range 60 {
		s.Put(many, key(i), fmt.Sprintf("%02d", i))
	}
	isMap(bare, chapter...)
	isMap(deadMap, chapter...)
	isWalk(fewWalk, few, 1)
	isWalk(manyWalk, many, 17)
	isWalk(deadWalk, few, 1)
	isMap(grown, chapter...)
	for i := range 8 {
		s.Put(grown, key(i), "g")
	}
	isWalk(grownWalk, grown, 3)
	for i := range 20 {
		s.Put(grown, key(8+i), "h")
	}
	isWalk(doneWalk, few, 9)
	isWalk(lostWalk, deadMap, 0)
	if e := s.Release(deadWalk, deadMap); e != api.OK || s.Hold().Next != nextFree {
		t.Fatalf("the world: Release: error %d; the next handle is %d", e, s.Hold().Next)
	}
	return s
}

// key: a key of one byte; "a" is the first.
func key(i int) string { return string([]byte{byte('a' + i)}) }

// kept: all that can be asked of a store without changing it, but for its next handle: what it keeps, its handles, its arena's end, its blocks and their bytes.
func kept(s *store.Store) string {
	a, hold := s.Arena(), s.Hold()
	hold.Next = 0
	var text strings.Builder
	fmt.Fprint(&text, hold, s.Handles(), a.Live(), a.End(), a.Parts())
	for off, size := range a.Blocks() {
		b, e := a.Read(off, size)
		fmt.Fprintf(&text, "%d %x\n", e, b)
	}
	return text.String()
}

// state: what is kept, and the next handle.
func state(s *store.Store) string { return fmt.Sprint(s.Hold().Next, kept(s)) }

func get(h int, key string) api.Cmd { return api.Cmd{Op: api.OpGet, H: h, Key: key} }
func length(h int) api.Cmd          { return api.Cmd{Op: api.OpLen, H: h} }
func probes(h int, key string) api.Cmd {
	return api.Cmd{Op: api.OpProbes, H: h, Key: key}
}
func slots(h int) api.Cmd         { return api.Cmd{Op: api.OpSlots, H: h} }
func open(h int) api.Cmd          { return api.Cmd{Op: api.OpOpen, H: h} }
func next(n int) api.Cmd          { return api.Cmd{Op: api.OpNext, H: n} }
func release(ns ...int) api.Cmd   { return api.Cmd{Op: api.OpRelease, Hs: ns} }
func job(cs ...api.Cmd) []api.Cmd { return cs }

func found(elem string) api.Answer { return api.Answer{Op: api.OpGet, Yes: true, Elem: elem} }
func number(op, n int) api.Answer  { return api.Answer{Op: op, N: n} }
func opened(k int) api.Answer      { return api.Answer{Op: api.OpOpen, N: -k} }
func pair(k, v string) api.Answer {
	return api.Answer{Op: api.OpNext, Yes: true, Key: k, Elem: v}
}
func done() api.Answer     { return api.Answer{Op: api.OpNext} }
func released() api.Answer { return api.Answer{Op: api.OpRelease} }
func wrong(op int, e api.Errno) api.Answer {
	return api.Answer{Op: op, Err: e}
}
func answers(as ...api.Answer) []api.Answer { return as }

// unlike: where two lists of lists of answers are not the same; "": they are. (Empty ones are alike, nil or not.)
func unlike(got, want [][]api.Answer) string {
	if len(got) != len(want) {
		return fmt.Sprintf("answers for %d jobs, want %d", len(got), len(want))
	}
	for i := range got {
		if len(got[i]) != len(want[i]) {
			return fmt.Sprintf("job %d has %d answers, want %d", i, len(got[i]), len(want[i]))
		}
		for k := range got[i] {
			if got[i][k] != want[i][k] {
				return fmt.Sprintf("job %d, command %d: %+v, want %+v", i, k, got[i][k], want[i][k])
			}
		}
	}
	return ""
}

// short: jobs for a message.
func short(jobs [][]api.Cmd) string {
	text := fmt.Sprintf("%+v", jobs)
	if len(text) > 600 {
		return text[:600] + " .."
	}
	return text
}

// walksOf: how many walks were opened, by the answers.
func walksOf(lists [][]api.Answer) int {
	walks := 0
	for _, a := range slices.Concat(lists...) {
		if a.Op == api.OpOpen && a.Err == api.OK {
			walks++
		}
	}
	return walks
}

// reads: the jobs are answered so; and behind them the store is as it was, but for as many more handles as walks were opened.
func reads(t testing.TB, s *store.Store, jobs [][]api.Cmd, want ...[]api.Answer) {
	t.Helper()
	was := s.Hold().Next
	before := kept(s)
	got, e := crew.Read(s, jobs...)
	if bad := unlike(got, want); e != api.OK || bad != "" {
		t.Errorf("P17.2: Read(%s): error %d, %s", short(jobs), e, bad)
	}
	walks := walksOf(want)
	if now := s.Hold().Next; now != was+walks {
		t.Errorf("P17.4: behind Read(%s), with %d walks opened, the next handle is %d, was %d", short(jobs), walks, now, was)
	}
	if kept(s) != before {
		t.Errorf("P17.4: behind Read(%s) the store is not as it was", short(jobs))
	}
}

// readsOne: one job is answered so.
func readsOne(t testing.TB, s *store.Store, cs []api.Cmd, want ...api.Answer) {
	t.Helper()
	reads(t, s, [][]api.Cmd{cs}, want)
}

// drawer: what is drawn for a test.
type drawer struct{ *rand.Rand }

func draws(seed int64) drawer { return drawer{rand.New(rand.NewSource(seed))} }

func (d drawer) oneOf(list ...int) int { return list[d.Intn(len(list))] }
