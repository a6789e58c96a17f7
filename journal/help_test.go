package journal_test

import (
	"fmt"
	"math"
	"math/rand"
	"strings"
	"testing"

	"larder/api"
	"larder/journal"
	"larder/store"
)

// plain: the descriptor of the chapter's examples.
var plain = []int{1, 1, 1, 1, 16}

// edges: numbers that words are made to hold.
var edges = []uint64{0, 1, 2, 3, 4, 5, 6, 7, 8, 9, 10, 11, 12, 13, 14, 15, 16, 17, 31, 32, 33, 64, 65, 99, 128, 129, 256, 4096, 4097, api.MaxLimit, api.MaxLimit + 1, 1<<31 - 1, 1 << 31, 1<<32 - 1, 1 << 32, 1<<32 + 1,
	1 << 60, 1<<61 - 1, 1 << 61, 1<<61 + 1, 1 << 62, 1<<63 - 1, 1 << 63, 1<<63 + 1, 1<<64 - 64, 1<<64 - 16, 1<<64 - 9, 1<<64 - 8, 1<<64 - 7, 1<<64 - 2, 1<<64 - 1}

// changing: the Ops of the changing commands.
var changing = []int{api.OpMake, api.OpPut, api.OpDelete, api.OpClear, api.OpClone, api.OpOpen, api.OpNext, api.OpRelease}

// still: the Ops of the other commands of chapter 16, and numbers that are no Op.
var still = []int{api.OpGet, api.OpLen, api.OpLive, api.OpProbes, api.OpSlots, api.OpAudit, 0, 15, 99, 256 + api.OpPut, 1<<32 + api.OpMake, 1 << 62, -1, -api.OpPut, math.MaxInt, math.MinInt, math.MinInt + api.OpClone}

func begin(t testing.TB, limit int, over ...api.Over) *journal.Journal {
	t.Helper()
	j, e := journal.Begin(limit, over...)
	if j == nil || e != api.OK {
		t.Fatalf("P20.1: Begin(%d) with %d overrides: journal %v, error %d", limit, len(over), j != nil, e)
	}
	return j
}

// done: a journal behind these commands, whatever they answer.
func done(t testing.TB, limit int, cmds ...api.Cmd) *journal.Journal {
	t.Helper()
	j := begin(t, limit)
	for _, c := range cmds {
		j.Do(c)
	}
	return j
}

func wantLog(t testing.TB, what string, j *journal.Journal, want string) {
	t.Helper()
	if s := string(j.Log()); s != want {
		t.Fatalf("%s: the log is % x, want % x", what, s, want)
	}
}

// recovered: the journal of a log that has so many good records, which are all of it.
func recovered(t testing.TB, what, log string, records int) *journal.Journal {
	t.Helper()
	return recoveredTo(t, what, log, records, log)
}

// recoveredTo: the journal of a log of which so many records are good: the log is then another.
func recoveredTo(t testing.TB, what, log string, records int, want string) *journal.Journal {
	t.Helper()
	j, n, e := journal.Recover([]byte(log))
	if j == nil || n != records || e != api.OK {
		t.Fatalf("P20.5: %s: journal %v, %d records, error %d, want %d records", what, j != nil, n, e, records)
	}
	wantLog(t, "P20.5: "+what, j, want)
	return j
}

func refused(t testing.TB, what, log string, want api.Errno) {
	t.Helper()
	if j, n, e := journal.Recover([]byte(log)); j != nil || n != 0 || e != want {
		t.Errorf("P20.5: %s: journal %v, %d records, error %d, want error %d", what, j != nil, n, e, want)
	}
}

// state: all that can be asked of a store without changing it: what it keeps, its handles, its arena's limit and end, its blocks and their bytes.
func state(s *store.Store) string {
	a := s.Arena()
	var text strings.Builder
	fmt.Fprint(&text, s.Hold(), s.Handles(), s.Live(), a.Limit(), a.End(), a.Parts())
	for off, size := range a.Blocks() {
		b, e := a.Read(off, size)
		fmt.Fprintf(&text, "%d %x\n", e, b)
	}
	return text.String()
}

// walksOf: the handles of the walks that are not released.
func walksOf(s *store.Store) []int {
	maps := map[int]int{}
	for _, k := range s.Hold().Maps {
		maps[k.Handle] = 1
	}
	var l []int
	for _, h := range s.Handles() {
		if maps[h] == 0 {
			l = append(l, h)
		}
	}
	return l
}

// key: the key with that number, of so many bytes. (37 is odd: all keys of a width are told apart, and do not come in their order.)
func key(width, n int) string {
	b := make([]byte, width)
	for i := range b {
		b[i] = byte(n * 37 >> (8 * (i % 7)))
	}
	return string(b)
}

// hashes: overrides by which keys of one byte lie close together, or far apart.
var hashes = map[string]func(n int) uint64{
	"hashes all the same": func(int) uint64 { return 5*128 + 9 },
	"few hashes":          func(n int) uint64 { return []uint64{0, math.MaxUint64, 3*128 + 5, 1 << 63, 1 << 62}[n%5] },
	"many hashes":         nil,
}

// overs: overrides for the keys of one byte with the numbers 0 to 63.
func overs(of func(n int) uint64) []api.Over {
	var l []api.Over
	for n := 0; of != nil && n < api.MaxOver; n++ {
		l = append(l, api.Over{Key: key(1, n), Hash: of(n)})
	}
	return l
}

// longOvers: as many overrides as there may be, with keys of 1 to 128 bytes, not in the order of the keys, and hashes up to the greatest.
func longOvers() []api.Over {
	var l []api.Over
	for n := range api.MaxOver {
		l = append(l, api.Over{Key: strings.Repeat(string(rune('z'-n%26)), api.MaxKey-2*n), Hash: math.MaxUint64 / uint64(1+n*n*n)})
	}
	l[len(l)-1].Key = "\x00"
	return l
}

// drawer: commands for a store, drawn.
type drawer struct{ *rand.Rand }

func draws(seed int64) drawer { return drawer{rand.New(rand.NewSource(seed))} }

// descriptors: of which some are wrong.
var descriptors = [][]int{plain, plain, {1, 0, 1, 1, 32}, {2, 3, 2, 1, 16}, {8, 8, 8, 8, 1024}, {5, 4, 1, 4, 64}, {1, 1, 1, 1, 17}, {-1, math.MinInt, math.MaxInt, 0, -16}, {1, 1, 1}, nil}

// handle: mostly that of a map, or of a walk; now and then another.
func (d drawer) handle(s *store.Store, walk bool) int {
	hold, hs := s.Hold(), s.Handles()
	switch n := d.Intn(40); {
	case n == 0:
		return int(edges[d.Intn(len(edges))])
	case n == 1:
		return d.Intn(hold.Next+2) - 1
	case walk && len(hs) > 0:
		return hs[len(hs)-1-d.Intn(min(3, len(hs)))]
	case len(hold.Maps) > 0:
		return hold.Maps[d.Intn(len(hold.Maps))].Handle
	}
	return 1
}

// keyOf: a key of the map behind the handle, and an elem; now and then of a wrong width.
func (d drawer) keyOf(s *store.Store, h int) (string, string) {
	l := api.Layout{Key: 1, Elem: 1}
	for _, k := range s.Hold().Maps {
		if k.Handle == h {
			l = k.Root.Layout
		}
	}
	switch d.Intn(60) {
	case 0:
		l.Key++
	case 1:
		l.Elem++
	case 2:
		l.Key, l.Elem = 0, 0
	}
	return key(l.Key, d.Intn(64)), key(l.Elem, d.Intn(256))
}

// command: for the store as it is now. What its Op does not use is filled in, too.
func (d drawer) command(s *store.Store) api.Cmd {
	ops := []int{api.OpMake, api.OpGet, api.OpDelete, api.OpDelete, api.OpDelete, api.OpLen, api.OpClear, api.OpClone, api.OpOpen, api.OpOpen, api.OpNext, api.OpNext, api.OpNext, api.OpNext, api.OpRelease, api.OpLive, api.OpProbes, api.OpSlots, api.OpAudit, 0}
	c := api.Cmd{Op: api.OpPut, U: d.Uint64() >> d.Intn(64), V: d.Uint64() >> d.Intn(64), N: d.Intn(12), Fields: descriptors[d.Intn(len(descriptors))]}
	if n := d.Intn(5 * len(ops) / 2); n < len(ops) {
		c.Op = ops[n]
	}
	if len(s.Hold().Maps) == 0 && d.Intn(2) == 0 {
		c.Op = api.OpMake
	}
	switch d.Intn(30) {
	case 0:
		c.N = int(edges[d.Intn(len(edges))])
	case 1, 2:
		c.N = d.Intn(60)
	}
	c.H = d.handle(s, c.Op == api.OpNext)
	c.Key, c.Elem = d.keyOf(s, c.H)
	for range d.Intn(3) * d.Intn(2) {
		c.Hs = append(c.Hs, d.handle(s, d.Intn(4) > 0))
	}
	if c.Op == api.OpClear && d.Intn(3) > 0 {
		c.Op = api.OpNext
	}
	return c
}

// scribble: all bytes are changed, those of the spare room too.
func scribble(b []byte) {
	b = b[:cap(b)]
	for i := range b {
		b[i] ^= 0xA5
	}
}
