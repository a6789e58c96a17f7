package store_test

import (
	"fmt"
	"math"
	"reflect"
	"slices"
	"strings"
	"testing"

	"larder/api"
	"larder/store"
)

// overrides: so many, of keys of their own.
func overrides(n int) []api.Over {
	var l []api.Over
	for i := range n {
		l = append(l, api.Over{Key: fmt.Sprint("key ", i), Hash: uint64(i)})
	}
	return l
}

func TestNew(t *testing.T) {
	empty, long := api.Over{}, api.Over{Key: strings.Repeat("k", 129)}
	good := api.Over{Key: strings.Repeat("k", 128), Hash: math.MaxUint64}
	for _, c := range []struct {
		name  string
		limit int
		over  []api.Over
		want  api.Errno
	}{
		{"the least limit", 0, nil, api.OK},
		{"one below it", -1, nil, api.ErrLimit},
		{"far below it", math.MinInt, nil, api.ErrLimit},
		{"the greatest limit", 2097152, nil, api.OK},
		{"one above it", 2097153, nil, api.ErrLimit},
		{"far above it", math.MaxInt, nil, api.ErrLimit},
		{"the most overrides", 100, overrides(64), api.OK},
		{"one more", 100, overrides(65), api.ErrMany},
		{"an override of the longest key", 100, []api.Over{good}, api.OK},
		{"of a longer one", 100, []api.Over{good, long}, api.ErrLong},
		{"of an empty one", 100, []api.Over{empty}, api.ErrLong},
		{"two of one key", 100, []api.Over{good, {Key: "a"}, good}, api.ErrTwice},
		{"the limit ahead of too many", -1, overrides(65), api.ErrLimit},
		{"the limit ahead of a long key", 2097153, []api.Over{long}, api.ErrLimit},
		{"the limit ahead of two of one key", -1, []api.Over{good, good}, api.ErrLimit},
		{"too many ahead of a long key", 0, append(overrides(64), long), api.ErrMany},
		{"a long key ahead of two of one", 0, []api.Over{good, long, good}, api.ErrLong},
		{"two of one key ahead of a long one", 0, []api.Over{good, good, long}, api.ErrTwice},
	} {
		s, e := store.New(c.limit, c.over...)
		if e != c.want || (s == nil) != (e != api.OK) {
			t.Fatalf("P14.1: New with %s: error %d, want %d, nil: %v", c.name, e, c.want, s == nil)
		}
		if s == nil {
			continue
		}
		if s.Live() != 0 || len(s.Handles()) != 0 || len(s.Roots()) != 0 || s.Arena().Limit() != c.limit || s.Arena().End() != 16 {
			t.Errorf("P14.1: New with %s: the store is not empty, or its arena has another limit", c.name)
		}
		sameHold(t, c.name, s.Hold(), api.Hold{Over: c.over, Next: 1})
		for _, v := range c.over {
			if h := s.Oracle().Hash(99, v.Key); h != v.Hash {
				t.Errorf("P14.1: New with %s: the hash of %.12q is %d, want %d", c.name, v.Key, h, v.Hash)
			}
		}
	}
}

// TestFace: what the store is made of adds no call to those that the chapter names.
func TestFace(t *testing.T) {
	want := strings.Fields("All Arena Clear Clone Delete Get Handles Hold Len Live Make Next Open Oracle Probes Put Release Roots Slots")
	var got []string
	for m := range reflect.TypeFor[*store.Store]().Methods() {
		got = append(got, m.Name)
	}
	if slices.Sort(got); !slices.Equal(got, want) {
		t.Errorf("the store's calls are %v, want %v", got, want)
	}
}

func TestMake(t *testing.T) {
	for _, fields := range descriptors {
		for _, hint := range []int{0, 1, 8, 9, 15, 4095, 4096} {
			w := start(t, 2097152)
			for n := range 3 {
				w.do(api.Cmd{Op: api.OpMake, U: uint64(n), N: hint, Fields: fields})
			}
		}
	}
}

// TestMakeRefused: P14.2: each error, and the first of several; no handle is given.
func TestMakeRefused(t *testing.T) {
	w := start(t, 100)
	refused := func(what string, hint int, fields []int, want api.Errno) {
		t.Helper()
		if a := w.do(api.Cmd{Op: api.OpMake, U: 5, N: hint, Fields: fields}); a.Err != want || a.N != 0 {
			t.Fatalf("P14.2: Make with %s: %d, error %d, want %d", what, a.N, a.Err, want)
		}
	}
	for _, hint := range []int{-1, math.MinInt, 4097, math.MaxInt} {
		refused(fmt.Sprint("the hint ", hint), hint, chapter, api.ErrHint)
		for _, c := range wrongFields {
			refused(fmt.Sprint("the hint ", hint, " and ", c.fields), hint, c.fields, c.e)
		}
	}
	for n := range 9 {
		if fields := slices.Repeat([]int{1}, n); n != 5 {
			refused(fmt.Sprint(n, " fields"), 0, fields, api.ErrFields)
		}
	}
	refused("too little memory for the hint", 9, chapter, api.ErrMemory)
	if a := w.do(api.Cmd{Op: api.OpMake, Fields: chapter}); a.N != 1 {
		t.Fatalf("P14.2: the first map that is made has the handle %d", a.N)
	}
	for _, c := range wrongFields {
		refused(fmt.Sprint("too little memory, and ", c.fields), 0, c.fields, c.e)
	}
	refused("too little memory, and the hint 4097", 4097, chapter, api.ErrHint)
	refused("too little memory", 0, chapter, api.ErrMemory)
	w.do(api.Cmd{Op: api.OpRelease, Hs: []int{1}})
	if a := w.do(api.Cmd{Op: api.OpMake, Fields: chapter}); a.N != 2 {
		t.Fatalf("P14.2: the second map that is made has the handle %d", a.N)
	}
}

// TestClone: P14.4: of a bare, a small and a wide map; where memory is short it is refused, and gives no handle.
func TestClone(t *testing.T) {
	for _, keys := range []int{0, 1, 8, 9, 40} {
		refused := 0
		for limit := 64; limit <= 1<<16; limit = limit*5/4 + 1 {
			w := start(t, limit)
			w.do(api.Cmd{Op: api.OpMake, U: 7, Fields: chapter})
			for i := range keys {
				w.do(api.Cmd{Op: api.OpPut, H: 1, Key: text(1, i), Elem: "x"})
			}
			if a := w.do(api.Cmd{Op: api.OpClone, H: 1}); a.Err == api.ErrMemory {
				refused++
			} else if a.N != 2 {
				t.Fatalf("P14.4: Clone = %d, error %d, want 2", a.N, a.Err)
			}
			next := w.next
			if a := w.do(api.Cmd{Op: api.OpOpen, H: 1}); a.N != next {
				t.Fatalf("P14.4: behind a clone a walk has the handle %d, want %d", a.N, next)
			}
			w.do(api.Cmd{Op: api.OpPut, H: 2, Key: text(1, 0), Elem: "y"})
			w.do(api.Cmd{Op: api.OpGet, H: 1, Key: text(1, 0)})
		}
		if refused == 0 {
			t.Error("the run is too tame: no clone was refused")
		}
	}
}
