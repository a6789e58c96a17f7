package larder_test

import (
	"fmt"
	"math"
	"slices"
	"strings"
	"testing"

	"larder/api"
	"larder/larder"
	"larder/script"
	"larder/store"
)

// beginnings: limits and overrides, and by which error no store begins with them.
func beginnings() []beginning {
	long, many := api.Over{Key: strings.Repeat("k", api.MaxKey+1)}, append(longOvers(), api.Over{Key: "one more"})
	a := api.Over{Key: "a", Hash: 1}
	return []beginning{
		{"the least limit", 0, nil, api.OK},
		{"the greatest limit", api.MaxLimit, nil, api.OK},
		{"as many overrides as there may be", 4096, longOvers(), api.OK},
		{"a limit below 0", -1, nil, api.ErrLimit},
		{"the least number", math.MinInt, nil, api.ErrLimit},
		{"a limit that is one too great", api.MaxLimit + 1, nil, api.ErrLimit},
		{"the greatest number", math.MaxInt, nil, api.ErrLimit},
		{"an override too many", 4096, many, api.ErrMany},
		{"an override without a key", 4096, []api.Over{a, {Hash: 7}}, api.ErrLong},
		{"an override's key that is too long", 4096, []api.Over{long}, api.ErrLong},
		{"two overrides of one key", 4096, []api.Over{a, {Key: "b"}, {Key: "a", Hash: 2}}, api.ErrTwice},
		{"the same override twice", 4096, []api.Over{a, a}, api.ErrTwice},
		{"the limit ahead of too many", -1, many, api.ErrLimit},
		{"the limit ahead of an empty key", api.MaxLimit + 1, []api.Over{{}}, api.ErrLimit},
		{"the limit ahead of two", -1, []api.Over{a, a}, api.ErrLimit},
		{"too many ahead of an empty key", 4096, append([]api.Over{{}}, many...), api.ErrMany},
		{"too many ahead of two", 4096, append([]api.Over{a, a}, many...), api.ErrMany},
		{"an empty key ahead of two", 4096, []api.Over{a, {}, a}, api.ErrLong},
		{"two ahead of an empty key", 4096, []api.Over{a, a, {}}, api.ErrTwice},
	}
}

type beginning struct {
	what  string
	limit int
	over  []api.Over
	want  api.Errno
}

// TestPlayRefused: P22.1: what refuses a new store, alone and together, in the store's order; the commands play no part in it.
func TestPlayRefused(t *testing.T) {
	for _, c := range beginnings() {
		for _, cmds := range [][]api.Cmd{nil, {{Op: api.OpLive}}, {{Op: 99}, {Op: api.OpLen, H: 7}}} {
			l, e := larder.Play(api.Script{Limit: c.limit, Over: c.over, Cmds: cmds})
			if e != c.want || e == api.OK && len(l) != len(cmds) || e != api.OK && l != nil {
				t.Errorf("P22.1: %s, %d commands: %v, error %d, want error %d", c.what, len(cmds), l, e, c.want)
			}
		}
	}
}

// TestPlayAnswers: P22.1: one answer for each command, in their order, behind refused ones and commands of no kind too.
func TestPlayAnswers(t *testing.T) {
	type answered struct {
		c api.Cmd
		a api.Answer
	}
	var s api.Script
	s.Limit = 300
	var want []api.Answer
	for _, x := range []answered{
		{api.Cmd{Op: api.OpGet, H: 1, Key: "a"}, api.Answer{Op: api.OpGet, Err: api.ErrHandle}},
		{api.Cmd{}, api.Answer{Err: api.ErrText}},
		{api.Cmd{Op: api.OpMake, Fields: plain[:4]}, api.Answer{Op: api.OpMake, Err: api.ErrFields}},
		{api.Cmd{Op: api.OpMake, U: 7, Fields: plain}, api.Answer{Op: api.OpMake, N: 1}},
		{api.Cmd{Op: api.OpMake, N: 9, Fields: plain}, api.Answer{Op: api.OpMake, Err: api.ErrMemory}},
		{api.Cmd{Op: api.OpPut, H: 1, Key: "a", Elem: "x"}, api.Answer{Op: api.OpPut, Yes: true}},
		{api.Cmd{Op: 15, H: 1}, api.Answer{Op: 15, Err: api.ErrText}},
		{api.Cmd{Op: -1, H: 1}, api.Answer{Op: -1, Err: api.ErrText}},
		{api.Cmd{Op: math.MinInt}, api.Answer{Op: math.MinInt, Err: api.ErrText}},
		{api.Cmd{Op: 256 + api.OpClear, H: 1}, api.Answer{Op: 256 + api.OpClear, Err: api.ErrText}},
		{api.Cmd{Op: api.OpPut, H: 1, Key: "a", Elem: "y"}, api.Answer{Op: api.OpPut}},
		{api.Cmd{Op: api.OpGet, H: 1, Key: "a"}, api.Answer{Op: api.OpGet, Yes: true, Elem: "y"}},
		{api.Cmd{Op: api.OpGet, H: 1, Key: "b"}, api.Answer{Op: api.OpGet}},
		{api.Cmd{Op: api.OpClone, H: 1}, api.Answer{Op: api.OpClone, Err: api.ErrMemory}},
		{api.Cmd{Op: api.OpOpen, H: 1}, api.Answer{Op: api.OpOpen, N: 2}},
		{api.Cmd{Op: api.OpNext, H: 2}, api.Answer{Op: api.OpNext, Yes: true, Key: "a", Elem: "y"}},
		{api.Cmd{Op: api.OpNext, H: 2}, api.Answer{Op: api.OpNext}},
		{api.Cmd{Op: api.OpNext, H: 1}, api.Answer{Op: api.OpNext, Err: api.ErrKind}},
		{api.Cmd{Op: api.OpLen, H: 1}, api.Answer{Op: api.OpLen, N: 1}},
		{api.Cmd{Op: api.OpProbes, H: 1, Key: "a"}, api.Answer{Op: api.OpProbes, N: 1}},
		{api.Cmd{Op: api.OpSlots, H: 1}, api.Answer{Op: api.OpSlots, N: 8}},
		{api.Cmd{Op: api.OpLive}, api.Answer{Op: api.OpLive, N: 256}},
		{api.Cmd{Op: api.OpAudit}, api.Answer{Op: api.OpAudit}},
		{api.Cmd{Op: api.OpDelete, H: 1, Key: "a"}, api.Answer{Op: api.OpDelete, Yes: true}},
		{api.Cmd{Op: api.OpClear, H: 1, U: 9}, api.Answer{Op: api.OpClear}},
		{api.Cmd{Op: api.OpRelease, Hs: []int{2, 1, 2}}, api.Answer{Op: api.OpRelease, Err: api.ErrAgain}},
		{api.Cmd{Op: api.OpRelease, Hs: []int{2, 1}}, api.Answer{Op: api.OpRelease}},
		{api.Cmd{Op: api.OpLen, H: 1}, api.Answer{Op: api.OpLen, Err: api.ErrGone}},
		{api.Cmd{Op: api.OpMake, Fields: plain}, api.Answer{Op: api.OpMake, N: 3}},
		{api.Cmd{Op: 99}, api.Answer{Op: 99, Err: api.ErrText}},
	} {
		s.Cmds, want = append(s.Cmds, x.c), append(want, x.a)
	}
	for n := range len(want) + 1 { // each beginning of it, the one without commands too
		got, e := larder.Play(api.Script{Limit: s.Limit, Cmds: s.Cmds[:n]})
		if e != api.OK || !slices.Equal(got, want[:n]) {
			t.Fatalf("P22.1: %d commands: %+v, error %d, want %+v", n, got, e, want[:n])
		}
	}
}

// TestPlayAsAStore: P22.1: drawn scripts, with commands of no kind between: the answers are those of a store that nobody else calls.
func TestPlayAsAStore(t *testing.T) {
	for _, s := range stories(t, 3, 300) {
		played := s.script()
		played.Cmds = nil
		for i, c := range s.cmds {
			played.Cmds = append(played.Cmds, c)
			if i%7 == 0 {
				played.Cmds = append(played.Cmds, api.Cmd{Op: 15 + i, H: 1, Key: "a", Elem: "b", Hs: []int{1}, Fields: plain})
			}
		}
		alone, e := store.New(s.limit, s.over...)
		if e != api.OK {
			t.Fatal(e)
		}
		got, e := larder.Play(played)
		if e != api.OK || len(got) != len(played.Cmds) {
			t.Fatalf("P22.1: %s: %d answers to %d commands, error %d", s.what, len(got), len(played.Cmds), e)
		}
		for i, c := range played.Cmds {
			if a := script.Play(alone, c); got[i] != a {
				t.Fatalf("P22.1: %s: command %d, %+v: %+v, want %+v", s.what, i, c, got[i], a)
			}
		}
	}
}

// TestPlayOverrides: P22.1: the overrides are those of the script: keys that lie all in one table.
func TestPlayOverrides(t *testing.T) {
	cmds := append(puts(1, 60, plain...), api.Cmd{Op: api.OpSlots, H: 1}, api.Cmd{Op: api.OpProbes, H: 1, Key: key(1, 59)})
	seen := map[string]int{}
	for _, k := range hashes {
		l, e := larder.Play(api.Script{Limit: 1 << 16, Over: overs(k.of), Cmds: cmds})
		if e != api.OK || len(l) != len(cmds) {
			t.Fatalf("P22.1: %s: %d answers, error %d", k.name, len(l), e)
		}
		seen[fmt.Sprint(l[len(l)-2:])]++
	}
	if len(seen) != len(hashes) {
		t.Errorf("P22.1: the overrides are not seen in slots and probes: %v", seen)
	}
}
