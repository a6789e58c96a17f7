package oracle_test

import (
	"slices"
	"strings"
	"testing"

	"larder/api"
	"larder/oracle"
)

func TestNumbersOfErrors(t *testing.T) {
	if got := [3]api.Errno{api.ErrMany, api.ErrLong, api.ErrTwice}; got != [3]api.Errno{40, 41, 42} {
		t.Errorf("P4.1: the errors are %v", got)
	}
}

func TestNewTakes(t *testing.T) {
	for _, n := range []int{0, 1, 2, 63, 64} {
		l := row(n)
		o := made(t, l...)
		for _, v := range l {
			gives(t, o, v.Key, v.Hash)
		}
		mixes(t, o, "none of them")
	}
	made(t, []api.Over{}...)
	made(t, []api.Over(nil)...)
}

func TestNewTooMany(t *testing.T) {
	for _, n := range []int{65, 66, 128, 1000} {
		refuses(t, api.ErrMany, row(n)...)
		refuses(t, api.ErrMany, make([]api.Over, n)...) // all of them empty, and the same
		refuses(t, api.ErrMany, slices.Repeat([]api.Over{{Key: "a", Hash: 5}}, n)...)
		refuses(t, api.ErrMany, slices.Repeat([]api.Over{{Key: strings.Repeat("k", 129)}}, n)...)
	}
}

func TestNewLengths(t *testing.T) {
	for _, n := range []int{1, 2, 64, 127, 128} {
		k := strings.Repeat("k", n)
		o := made(t, api.Over{Key: k, Hash: 9})
		gives(t, o, k, 9)
		mixes(t, o, k[1:])
		mixes(t, o, k+"k")
	}
	for _, n := range []int{0, 129, 130, 256, 257, 1 << 16, 1 << 20} {
		wrong := api.Over{Key: strings.Repeat("k", n), Hash: 9}
		refuses(t, api.ErrLong, wrong)
		for at := range 64 {
			refuses(t, api.ErrLong, slices.Insert(row(63), at, wrong)...)
		}
	}
	// Bytes are counted, not runes.
	refuses(t, api.ErrLong, api.Over{Key: strings.Repeat("é", 65)})
	made(t, api.Over{Key: strings.Repeat("é", 64)})
	made(t, api.Over{Key: strings.Repeat("\x00", 128)})
}

func TestNewTwice(t *testing.T) {
	for _, k := range []string{"a", "\x00", "\xff\xfe", strings.Repeat("k", 128)} {
		for _, second := range []uint64{5, 6, 0} {
			refuses(t, api.ErrTwice, api.Over{Key: k, Hash: 5}, api.Over{Key: k, Hash: second})
			refuses(t, api.ErrTwice, api.Over{Key: k, Hash: second}, api.Over{Key: k, Hash: 5})
			refuses(t, api.ErrTwice, api.Over{Key: k}, api.Over{Key: "between"}, api.Over{Key: k, Hash: second})
		}
	}
	for first := range 64 {
		for second := first + 1; second < 64; second++ {
			l := row(64)
			l[second].Key = l[first].Key
			refuses(t, api.ErrTwice, l...)
		}
	}
	// Keys that are almost one.
	made(t, api.Over{Key: "a"}, api.Over{Key: "A"}, api.Over{Key: "aa"}, api.Over{Key: "a\x00"}, api.Over{Key: "\x00a"}, api.Over{Key: "e\u0301"}, api.Over{Key: "é"})
	long := strings.Repeat("k", 127)
	made(t, api.Over{Key: long}, api.Over{Key: long + "a"}, api.Over{Key: long + "b"}, api.Over{Key: "a" + long})
}

// TestNewFirstFault: the error is that of the first override with a fault, whatever lies behind it.
func TestNewFirstFault(t *testing.T) {
	empty, long, a := api.Over{}, api.Over{Key: strings.Repeat("k", 129)}, api.Over{Key: "a", Hash: 5}
	b := api.Over{Key: "b", Hash: 6}
	refuses(t, api.ErrTwice, a, a, empty)
	refuses(t, api.ErrTwice, a, a, long)
	refuses(t, api.ErrTwice, b, a, a, b, empty, long)
	refuses(t, api.ErrLong, a, empty, a)
	refuses(t, api.ErrLong, a, long, a)
	refuses(t, api.ErrLong, a, b, long, b, a)
	// A key that is at fault itself is not looked for ahead of it: the empty one twice, the long one twice.
	refuses(t, api.ErrLong, empty, empty)
	refuses(t, api.ErrLong, a, long, long)
	refuses(t, api.ErrLong, long, empty)
	refuses(t, api.ErrLong, empty, long)
}

// faultOf: the error that the chapter says for these overrides, looked for pair by pair.
func faultOf(over []api.Over) api.Errno {
	if len(over) > 64 {
		return api.ErrMany
	}
	for i, v := range over {
		if v.Key == "" || len(v.Key) >= 129 {
			return api.ErrLong
		}
		for _, w := range over[:i] {
			if w.Key == v.Key {
				return api.ErrTwice
			}
		}
	}
	return api.OK
}

// TestNewManyLists: every list of up to six overrides of five kinds.
func TestNewManyLists(t *testing.T) {
	kinds := []api.Over{{}, {Key: "a", Hash: 1}, {Key: "a", Hash: 2}, {Key: strings.Repeat("a", 128), Hash: 3}, {Key: strings.Repeat("a", 129), Hash: 4}}
	lists := [][]api.Over{nil}
	for range 6 {
		var longer [][]api.Over
		for _, l := range lists {
			for _, v := range kinds {
				longer = append(longer, append(slices.Clone(l), v))
			}
		}
		lists = longer
		for _, l := range lists {
			if o, e := oracle.New(l...); e != faultOf(l) || (o == nil) != (e != api.OK) {
				t.Fatalf("P4.1: New(%s): an oracle %v, error %d, want error %d", firstFew(l), o != nil, e, faultOf(l))
			}
		}
	}
}

// TestNewListIsTheCallers: what is done to the list behind New is not seen, and New does nothing to it.
func TestNewListIsTheCallers(t *testing.T) {
	store := slices.Concat(row(20), []api.Over{{Key: "behind", Hash: 1}, {Key: "behind", Hash: 2}})
	was := slices.Clone(store)
	list := store[:20] // with room behind its last
	o := made(t, list...)
	refuses(t, api.ErrTwice, store...)
	if !slices.Equal(store, was) {
		t.Errorf("P4.1: New has changed the list, or what lies behind it")
	}
	mixes(t, o, "behind")
	for i := range store {
		store[i] = api.Over{Key: "other", Hash: greatest}
	}
	for _, v := range was[:20] {
		gives(t, o, v.Key, v.Hash)
	}
	mixes(t, o, "other")
	clear(store)
	for _, v := range was[:20] {
		gives(t, o, v.Key, v.Hash)
	}
	mixes(t, o, "")
}
