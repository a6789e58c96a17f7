package script_test

import (
	"fmt"
	"math"
	"reflect"
	"strings"
	"testing"

	"larder/api"
	"larder/audit"
	"larder/script"
	"larder/store"
)

// chapter: the descriptor of the chapters' examples.
var chapter = []int{1, 1, 1, 1, 16}

func begin(t *testing.T, limit int, over ...api.Over) *store.Store {
	t.Helper()
	s, e := store.New(limit, over...)
	if e != api.OK {
		t.Fatalf("store.New: error %d", e)
	}
	return s
}

// ask: the store's own call, by the chapter's table: what is laid into the answer.
func ask(s *store.Store, c api.Cmd) api.Answer {
	var a api.Answer
	var p api.Pair
	switch names[c.Op] {
	case "make":
		a.N, a.Err = s.Make(c.U, c.N, c.Fields...)
	case "get":
		a.Elem, a.Yes, a.Err = s.Get(c.H, c.Key)
	case "put":
		a.Yes, a.Err = s.Put(c.H, c.Key, c.Elem)
	case "delete":
		a.Yes, a.Err = s.Delete(c.H, c.Key)
	case "len":
		a.N, a.Err = s.Len(c.H)
	case "clear":
		a.Err = s.Clear(c.H, c.U)
	case "clone":
		a.N, a.Err = s.Clone(c.H)
	case "open":
		a.N, a.Err = s.Open(c.H, c.U, c.V)
	case "next":
		p, a.Yes, a.Err = s.Next(c.H)
		a.Key, a.Elem = p.Key, p.Elem
	case "release":
		a.Err = s.Release(c.Hs...)
	case "live":
		a.N = s.Live()
	case "probes":
		a.N, a.Err = s.Probes(c.H, c.Key)
	case "slots":
		a.N, a.Err = s.Slots(c.H)
	case "audit":
		f := audit.Check(s.Arena(), s.Oracle(), s.Roots()...)
		a.N, a.Off = f.Code, f.Off
	}
	a.Op = c.Op
	return a
}

// state: all that can be asked of a store without changing it: what it keeps, its handles, its arena's blocks and their bytes.
func state(s *store.Store) string {
	a := s.Arena()
	var text strings.Builder
	fmt.Fprint(&text, s.Hold(), s.Handles(), a.Parts())
	for off, size := range a.Blocks() {
		b, e := a.Read(off, size)
		fmt.Fprintf(&text, "%d %x\n", e, b)
	}
	return text.String()
}

// pairOfStores: one on which commands are played, and one whose calls are made.
type pairOfStores struct {
	t           *testing.T
	played, own *store.Store
}

func twoStores(t *testing.T, limit int, over ...api.Over) *pairOfStores {
	t.Helper()
	return &pairOfStores{t: t, played: begin(t, limit, over...), own: begin(t, limit, over...)}
}

// plays: the command is played, and the store's call is made on the other: the answers and the stores are the same. What the Op does not use is handed to Play alone.
func (p *pairOfStores) plays(c api.Cmd) api.Answer {
	p.t.Helper()
	want := ask(p.own, used(c))
	got := script.Play(p.played, c)
	if got != want {
		p.t.Fatalf("P16.6: Play(%s %+v) = %+v, want %+v", names[c.Op], c, got, want)
	}
	if a, b := state(p.played), state(p.own); a != b {
		p.t.Fatalf("P16.6: behind Play(%s %+v) the store is another than behind the store's own call", names[c.Op], c)
	}
	return got
}

// TestPlayEveryRow: with every kind of answer of every row.
func TestPlayEveryRow(t *testing.T) {
	p := twoStores(t, 560, api.Over{Key: "a", Hash: 5}, api.Over{Key: "b", Hash: 5})
	for _, c := range []struct {
		cmd  api.Cmd
		want api.Answer
	}{
		{api.Cmd{Op: api.OpAudit}, api.Answer{}},
		{api.Cmd{Op: api.OpLive}, api.Answer{}},
		{api.Cmd{Op: api.OpMake, U: 1 << 63, N: 9, Fields: chapter}, api.Answer{N: 1}},
		{api.Cmd{Op: api.OpLive}, api.Answer{N: 64 + 16 + 64 + 384}},
		{api.Cmd{Op: api.OpSlots, H: 1}, api.Answer{N: 16}},
		{api.Cmd{Op: api.OpMake, Fields: chapter}, api.Answer{Err: api.ErrMemory}},
		{api.Cmd{Op: api.OpClone, H: 1}, api.Answer{Err: api.ErrMemory}},
		{api.Cmd{Op: api.OpRelease, Hs: []int{1}}, api.Answer{}},
		{api.Cmd{Op: api.OpLive}, api.Answer{}},
		{api.Cmd{Op: api.OpMake, Fields: []int{1, 1, 1, 1}}, api.Answer{Err: api.ErrFields}},
		{api.Cmd{Op: api.OpMake}, api.Answer{Err: api.ErrFields}},
		{api.Cmd{Op: api.OpMake, N: -1, Fields: chapter}, api.Answer{Err: api.ErrHint}},
		{api.Cmd{Op: api.OpMake, Fields: chapter}, api.Answer{N: 2}},
		{api.Cmd{Op: api.OpPut, H: 2, Key: "a", Elem: "x"}, api.Answer{Yes: true}},
		{api.Cmd{Op: api.OpPut, H: 2, Key: "a", Elem: "y"}, api.Answer{}},
		{api.Cmd{Op: api.OpPut, H: 2, Key: "b", Elem: "z"}, api.Answer{Yes: true}},
		{api.Cmd{Op: api.OpPut, H: 2, Key: "", Elem: "z"}, api.Answer{Err: api.ErrKeyWidth}},
		{api.Cmd{Op: api.OpPut, H: 2, Key: "b"}, api.Answer{Err: api.ErrElemWidth}},
		{api.Cmd{Op: api.OpGet, H: 2, Key: "a"}, api.Answer{Yes: true, Elem: "y"}},
		{api.Cmd{Op: api.OpGet, H: 2, Key: "c"}, api.Answer{}},
		{api.Cmd{Op: api.OpGet, H: 3, Key: "c"}, api.Answer{Err: api.ErrHandle}},
		{api.Cmd{Op: api.OpLen, H: 2}, api.Answer{N: 2}},
		{api.Cmd{Op: api.OpLen, H: 1}, api.Answer{Err: api.ErrGone}},
		{api.Cmd{Op: api.OpProbes, H: 2, Key: "a"}, api.Answer{N: 1}},
		{api.Cmd{Op: api.OpProbes, H: 2, Key: "ab"}, api.Answer{Err: api.ErrKeyWidth}},
		{api.Cmd{Op: api.OpSlots, H: 0}, api.Answer{Err: api.ErrHandle}},
		{api.Cmd{Op: api.OpClone, H: 2}, api.Answer{N: 3}},
		{api.Cmd{Op: api.OpOpen, H: 2, U: 3, V: 1}, api.Answer{N: 4}},
		{api.Cmd{Op: api.OpOpen, H: 2, U: 1, V: 8}, api.Answer{N: 5}},
		{api.Cmd{Op: api.OpOpen, H: 4}, api.Answer{Err: api.ErrKind}},
		{api.Cmd{Op: api.OpNext, H: 4}, api.Answer{Yes: true, Key: "b", Elem: "z"}},
		{api.Cmd{Op: api.OpNext, H: 5}, api.Answer{Yes: true, Key: "a", Elem: "y"}},
		{api.Cmd{Op: api.OpNext, H: 4}, api.Answer{Yes: true, Key: "a", Elem: "y"}},
		{api.Cmd{Op: api.OpNext, H: 4}, api.Answer{}},
		{api.Cmd{Op: api.OpNext, H: 2}, api.Answer{Err: api.ErrKind}},
		{api.Cmd{Op: api.OpDelete, H: 3, Key: "b"}, api.Answer{Yes: true}},
		{api.Cmd{Op: api.OpDelete, H: 3, Key: "b"}, api.Answer{}},
		{api.Cmd{Op: api.OpDelete, H: 4, Key: "b"}, api.Answer{Err: api.ErrKind}},
		{api.Cmd{Op: api.OpAudit}, api.Answer{}},
		{api.Cmd{Op: api.OpClear, H: 3, U: 77}, api.Answer{}},
		{api.Cmd{Op: api.OpClear, H: -3, U: 77}, api.Answer{Err: api.ErrHandle}},
		{api.Cmd{Op: api.OpLen, H: 3}, api.Answer{}},
		{api.Cmd{Op: api.OpRelease, Hs: []int{3, 5, 3}}, api.Answer{Err: api.ErrAgain}},
		{api.Cmd{Op: api.OpRelease, Hs: []int{3, 6}}, api.Answer{Err: api.ErrHandle}},
		{api.Cmd{Op: api.OpRelease}, api.Answer{}},
		{api.Cmd{Op: api.OpRelease, Hs: []int{5, 2, 4}}, api.Answer{}},
		{api.Cmd{Op: api.OpNext, H: 5}, api.Answer{Err: api.ErrGone}},
		{api.Cmd{Op: api.OpLive}, api.Answer{N: 64}},
	} {
		c.want.Op = c.cmd.Op
		if got := p.plays(c.cmd); got != c.want {
			t.Fatalf("P16.6: Play(%s %+v) = %+v, want %+v", names[c.cmd.Op], c.cmd, got, c.want)
		}
	}
}

// playable: a command for a store with so many handles; fields that its Op does not use hold something, too.
func (d drawer) playable(given int) api.Cmd {
	c := d.command([]int{api.OpPut, api.OpPut, api.OpPut, api.OpPut, api.OpDelete, api.OpNext, d.op(), d.op()}[d.Intn(8)])
	handle := func() int {
		if d.Intn(15) == 0 {
			return []int{0, -1, given + 1, given + 2, math.MinInt, math.MaxInt}[d.Intn(6)]
		}
		return 1 + d.Intn(given+1)
	}
	c.H = handle()
	c.Hs = nil
	for range 1 + d.Intn(2) {
		c.Hs = append(c.Hs, handle())
	}
	if d.Intn(20) > 0 {
		c.Fields, c.N = chapter, []int{0, 0, 0, 8, 9, 20, 100}[d.Intn(7)]
		c.Key, c.Elem = string(rune('a'+d.Intn(26))), string(rune('a'+d.Intn(26)))
	}
	return c
}

// TestPlayDrawn: long scripts on two stores.
func TestPlayDrawn(t *testing.T) {
	answered := map[int]map[api.Errno]int{} // how often, by Op and error
	for seed := range int64(12) {
		d := draws(seed)
		limit := []int{400, 3000, 20000}[seed%3]
		p := twoStores(t, limit, api.Over{Key: "a", Hash: 0}, api.Over{Key: "b", Hash: 0}, api.Over{Key: "c", Hash: math.MaxUint64}, api.Over{Key: "d", Hash: 1 << 63})
		p.plays(api.Cmd{Op: api.OpMake, U: d.word(), Fields: chapter})
		for range 700 {
			hs := p.own.Handles()
			c := d.playable(p.own.Hold().Next - 1)
			if len(hs) > 0 && d.Intn(4) > 0 {
				c.H = hs[d.Intn(len(hs))]
				c.Hs[0] = hs[d.Intn(len(hs))]
			}
			a := p.plays(c)
			if answered[a.Op] == nil {
				answered[a.Op] = map[api.Errno]int{}
			}
			answered[a.Op][a.Err]++
		}
	}
	for op := firstOp; op <= lastOp; op++ {
		refusable := op != api.OpLive && op != api.OpAudit
		if answered[op][api.OK] < 10 || refusable && len(answered[op]) < 3 {
			t.Errorf("the test draws too little: %s is answered %v", names[op], answered[op])
		}
	}
}

// TestPlayAudit: an audit that finds something, over all maps of the store, by its hash.
func TestPlayAudit(t *testing.T) {
	put := func(s *store.Store, off, width int, v uint64) {
		t.Helper()
		if e := s.Arena().Store(off, width, v); e != api.OK {
			t.Fatalf("Store(%d): error %d", off, e)
		}
	}
	for _, c := range []struct {
		spoil func(s *store.Store)
		want  api.Answer
	}{
		{func(s *store.Store) {}, api.Answer{}},
		{func(s *store.Store) { put(s, 104, 8, 3) }, api.Answer{N: 17, Off: 104}},
		{func(s *store.Store) { put(s, 112, 1, 6) }, api.Answer{N: 13, Off: 112}},
		{func(s *store.Store) { put(s, 113, 1, 254) }, api.Answer{N: 11, Off: 113}},
		{func(s *store.Store) { put(s, 272+56, 1, 9) }, api.Answer{N: 3, Off: 272 + 56}},
		{func(s *store.Store) { put(s, 104, 8, 3); put(s, 272+56, 1, 9) }, api.Answer{N: 17, Off: 104}},
		{func(s *store.Store) { s.Arena().Alloc(5) }, api.Answer{N: 26, Off: 336}},
		{func(s *store.Store) { s.Arena().Free(272) }, api.Answer{N: 6, Off: 272}},
		{func(s *store.Store) { s.Release(1); put(s, 272, 8, 1) }, api.Answer{N: 3, Off: 272 + 16}},
	} {
		s := begin(t, 65536, api.Over{Key: "a", Hash: 5}, api.Over{Key: "b", Hash: 133})
		for _, cmd := range []api.Cmd{
			{Op: api.OpMake, U: 7, Fields: chapter}, {Op: api.OpPut, H: 1, Key: "a", Elem: "x"}, {Op: api.OpPut, H: 1, Key: "b", Elem: "y"}, {Op: api.OpMake, U: 8, Fields: chapter},
		} {
			if a := script.Play(s, cmd); a.Err != api.OK {
				t.Fatalf("P16.6: Play(%+v) = %+v", cmd, a)
			}
		}
		c.spoil(s)
		c.want.Op = api.OpAudit
		f := audit.Check(s.Arena(), s.Oracle(), s.Roots()...)
		if f.Code != c.want.N || f.Off != c.want.Off {
			t.Fatalf("audit.Check = %+v, want %+v", f, c.want)
		}
		before := state(s)
		if got := script.Play(s, api.Cmd{Op: api.OpAudit, H: 1, N: 5, Hs: []int{1}}); got != c.want {
			t.Errorf("P16.6: an audit = %+v, want %+v", got, c.want)
		}
		if state(s) != before {
			t.Errorf("P16.6: an audit changes the store")
		}
	}
}

// TestPlayNoOps: no call is made.
func TestPlayNoOps(t *testing.T) {
	s := begin(t, 65536)
	script.Play(s, api.Cmd{Op: api.OpMake, Fields: chapter})
	script.Play(s, api.Cmd{Op: api.OpPut, H: 1, Key: "a", Elem: "x"})
	before := state(s)
	for _, op := range noOps {
		for _, c := range []api.Cmd{{Op: op}, {Op: op, H: 1, Key: "a", Elem: "y", U: 1, V: 2, Fields: chapter, Hs: []int{1}}} {
			if a, want := script.Play(s, c), (api.Answer{Op: op, Err: api.ErrText}); a != want {
				t.Errorf("P16.6: Play(%+v) = %+v, want %+v", c, a, want)
			}
		}
	}
	if state(s) != before {
		t.Errorf("P16.6: a command with an Op of its own changes the store")
	}
}

// TestPlayKeepsNothing: the lists of a command are neither changed nor kept.
func TestPlayKeepsNothing(t *testing.T) {
	s := begin(t, 65536)
	room := []int{1, 1, 1, 1, 16, 99, 98}
	if a := script.Play(s, api.Cmd{Op: api.OpMake, Fields: room[:5]}); a.N != 1 {
		t.Fatalf("P16.6: make = %+v", a)
	}
	if !reflect.DeepEqual(room, []int{1, 1, 1, 1, 16, 99, 98}) {
		t.Errorf("W3: Play has changed a make's fields: %v", room)
	}
	clear(room)
	if a := script.Play(s, api.Cmd{Op: api.OpPut, H: 1, Key: "a", Elem: "x"}); !a.Yes {
		t.Errorf("W3: Play has kept a make's fields: put = %+v", a)
	}
	script.Play(s, api.Cmd{Op: api.OpMake, Fields: chapter})
	script.Play(s, api.Cmd{Op: api.OpMake, Fields: chapter})
	hs := []int{3, 1, 2, 97, 96}
	if a := script.Play(s, api.Cmd{Op: api.OpRelease, Hs: hs[:3]}); a.Err != api.OK || s.Live() != 0 {
		t.Errorf("P16.6: release = %+v", a)
	}
	if !reflect.DeepEqual(hs, []int{3, 1, 2, 97, 96}) {
		t.Errorf("W3: Play has changed a release's handles: %v", hs)
	}
}
