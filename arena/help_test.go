package arena_test

import (
	"fmt"
	"math"
	"math/big"
	"reflect"
	"strings"
	"testing"

	"larder/api"
	"larder/arena"
)

// classes: all of them, written out, so that a wrong rule is not held against itself.
var classes = []int{
	16, 32, 48, 64, 96, 128, 192, 256, 384, 512, 768, 1024, 1536, 2048, 3072, 4096, 6144, 8192, 12288, 16384, 24576, 32768,
	49152, 65536, 98304, 131072, 196608, 262144, 393216, 524288, 786432, 1048576,
}

// classOf: the least class of at least n bytes, 0 if there is none.
func classOf(n int) int {
	for _, c := range classes {
		if n >= 1 && n <= c {
			return c
		}
	}
	return 0
}

// begin: an arena without blocks.
func begin(t *testing.T, limit int) *arena.Arena {
	t.Helper()
	a, e := arena.New(limit)
	if e != api.OK || a == nil {
		t.Fatalf("P2.1: New(%d) = %v, error %d", limit, a, e)
	}
	return a
}

// takes: AllocAll of these sizes answers these offsets.
func takes(t *testing.T, a *arena.Arena, sizes, offs []int) {
	t.Helper()
	got, e := a.AllocAll(sizes...)
	if e != api.OK || fmt.Sprint(got) != fmt.Sprint(offs) {
		t.Fatalf("P2.4: AllocAll(%v) = %v, error %d, want %v", sizes, got, e, offs)
	}
}

// allocs: Alloc(n) answers this.
func allocs(t *testing.T, a *arena.Arena, n, off int, e api.Errno) {
	t.Helper()
	if got, ge := a.Alloc(n); got != off || ge != e {
		t.Fatalf("P2.3: Alloc(%d) = %d, error %d, want %d, error %d", n, got, ge, off, e)
	}
}

// stands: Live and End are these.
func stands(t *testing.T, a *arena.Arena, live, end int) {
	t.Helper()
	if a.Live() != live || a.End() != end {
		t.Fatalf("P2.6: Live %d, End %d, want %d, %d", a.Live(), a.End(), live, end)
	}
}

func answers(t *testing.T, what string, got, want api.Errno) {
	t.Helper()
	if got != want {
		t.Fatalf("%s: error %d, want %d", what, got, want)
	}
}

// reads: these are the bytes at off.
func reads(t *testing.T, a *arena.Arena, what string, off int, want string) {
	t.Helper()
	got, e := a.Read(off, len(want))
	answers(t, what+": Read", e, api.OK)
	if d := unlike(got, want); d != "" {
		t.Fatalf("%s: the block at %d, %s", what, off, d)
	}
}

// unlike: where two texts begin to differ, and how; "" if they don't. (A block may be long: only some bytes are told.)
func unlike(got, want string) string {
	i := 0
	for i < min(len(got), len(want)) && got[i] == want[i] {
		i++
	}
	if i == len(got) && i == len(want) {
		return ""
	}
	return fmt.Sprintf("byte %d: %.16q, want %.16q", i, got[i:], want[i:])
}

// mark: fills each live block with bytes of its own, so that a byte that moved is seen.
func mark(t *testing.T, a *arena.Arena) {
	t.Helper()
	for off, size := range a.Blocks() {
		answers(t, "P2.11: Write of a whole block", a.Write(off, marks(off, size)), api.OK)
	}
}

func marks(off, size int) string {
	l := make([]byte, size)
	for i := range l {
		l[i] = byte((off+i)%251 + 1)
	}
	return string(l)
}

// picture: all that an arena tells, without a change to it.
type picture struct {
	Limit, Live, End int
	Parts            []api.Part
	Blocks           [][2]int
	Bytes            []string
}

func look(t *testing.T, a *arena.Arena) picture {
	t.Helper()
	p := picture{Limit: a.Limit(), Live: a.Live(), End: a.End(), Parts: append([]api.Part{}, a.Parts()...)}
	for off, size := range a.Blocks() {
		p.Blocks = append(p.Blocks, [2]int{off, size})
		s, e := a.Read(off, size)
		answers(t, "P2.10: Read of a whole block", e, api.OK)
		p.Bytes = append(p.Bytes, s)
	}
	return p
}

// kept: nothing has changed since that picture.
func kept(t *testing.T, what string, a *arena.Arena, before picture) {
	t.Helper()
	now := look(t, a)
	for i := 0; i < len(now.Bytes) && reflect.DeepEqual(now.Blocks, before.Blocks); i++ {
		if d := unlike(now.Bytes[i], before.Bytes[i]); d != "" {
			t.Fatalf("%s: the block at %d has changed: %s", what, now.Blocks[i][0], d)
		}
	}
	now.Bytes, before.Bytes = nil, nil
	if !reflect.DeepEqual(now, before) {
		t.Fatalf("%s: something has changed:\n%+v, was\n%+v", what, now, before)
	}
}

// told: the arena that Restore makes of what this one tells.
func told(t *testing.T, a *arena.Arena) *arena.Arena {
	t.Helper()
	p := look(t, a)
	b, e := arena.Restore(p.Limit, p.Parts, strings.Join(p.Bytes, ""))
	if e != api.OK || b == nil {
		t.Fatalf("P2.14: Restore of %v: error %d", p.Parts, e)
	}
	return b
}

// isGood: the word 'good' of the chapter, in numbers that can't wrap round.
func isGood(parts []api.Part, off, n int) bool {
	end := new(big.Int).Add(big.NewInt(int64(off)), big.NewInt(int64(n)))
	for _, p := range parts {
		if p.Live && n >= 0 && off >= p.Off && end.Cmp(big.NewInt(int64(p.Off+p.Size))) <= 0 {
			return true
		}
	}
	return false
}

// deadOf: the error that spans which must be good are answered with.
func deadOf(good bool) api.Errno {
	if good {
		return api.OK
	}
	return api.ErrDead
}

// far: numbers that are no offset and no length of any arena, those at which a sum wraps round among them.
var far = []int{
	math.MinInt, math.MinInt + 1, math.MinInt + 16, math.MinInt + 48, math.MinInt32, -64, -16, -1,
	api.MaxMem, api.MaxMem + 1, math.MaxInt32, math.MaxUint32, math.MaxInt - 64, math.MaxInt - 48, math.MaxInt - 32, math.MaxInt - 16, math.MaxInt - 8, math.MaxInt - 1, math.MaxInt,
}
