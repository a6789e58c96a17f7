package journal_test

import (
	"fmt"
	"math"
	"slices"
	"strings"
	"testing"

	"larder/api"
	"larder/journal"
	"larder/store"
)

// TestBeginRefused: P20.1: the errors of a new store, alone and together, in its order.
func TestBeginRefused(t *testing.T) {
	many := longOvers()
	many = append(many, api.Over{Key: "one more"})
	long := api.Over{Key: strings.Repeat("k", api.MaxKey+1)}
	a := api.Over{Key: "a", Hash: 1}
	for _, c := range []struct {
		what  string
		limit int
		over  []api.Over
		want  api.Errno
	}{
		{"the limit -1", -1, nil, api.ErrLimit},
		{"the least limit", math.MinInt, nil, api.ErrLimit},
		{"a limit that is one too great", api.MaxLimit + 1, nil, api.ErrLimit},
		{"the greatest number", math.MaxInt, nil, api.ErrLimit},
		{"65 overrides", 5, many, api.ErrMany},
		{"an empty key", 5, []api.Over{{}}, api.ErrLong},
		{"a key that is too long", 5, []api.Over{a, long}, api.ErrLong},
		{"one key twice", 5, []api.Over{a, a}, api.ErrTwice},
		{"one key twice, then an empty one", 5, []api.Over{a, a, {}}, api.ErrTwice},
		{"an empty key, then one twice", 5, []api.Over{a, {}, a}, api.ErrLong},
		{"the limit ahead of an empty key", -1, []api.Over{{}}, api.ErrLimit},
		{"the limit ahead of a key twice", api.MaxLimit + 1, []api.Over{a, a}, api.ErrLimit},
		{"the limit ahead of too many", -1, many, api.ErrLimit},
		{"too many ahead of an empty key", 5, append(many, api.Over{}), api.ErrMany},
	} {
		if j, e := journal.Begin(c.limit, c.over...); j != nil || e != c.want {
			t.Errorf("P20.1: %s: journal %v, error %d, want %d", c.what, j != nil, e, c.want)
		}
		if _, e := store.New(c.limit, c.over...); e != c.want {
			t.Errorf("%s: a new store answers error %d, want %d", c.what, e, c.want)
		}
	}
}

// begins: limits and overrides that are taken.
var begins = []struct {
	what  string
	limit int
	over  []api.Over
}{
	{"the limit 0", 0, nil},
	{"the limit 4096", 4096, nil},
	{"the greatest limit", api.MaxLimit, nil},
	{"an override", 77, []api.Over{{Key: "ab", Hash: 5}}},
	{"the greatest hash", 78, []api.Over{{Key: "\x00", Hash: math.MaxUint64}}},
	{"two overrides", 0x010203, []api.Over{{Key: "b", Hash: 1}, {Key: "a", Hash: 0}}},
	{"the same two in another order", 0x010203, []api.Over{{Key: "a", Hash: 0}, {Key: "b", Hash: 1}}},
	{"a key of 128 bytes", 1, []api.Over{{Key: strings.Repeat("\xff", api.MaxKey), Hash: 1 << 63}}},
	{"64 overrides", 9999, longOvers()},
}

// TestBeginHead: P20.1: the head of kind 0, byte by byte; the store is a new one with that limit and these overrides.
func TestBeginHead(t *testing.T) {
	seen := map[string]string{}
	for _, c := range begins {
		j := begin(t, c.limit, c.over...)
		body := words(uint64(c.limit), uint64(len(c.over)))
		for _, o := range c.over {
			body += words(uint64(len(o.Key))) + o.Key + words(o.Hash)
		}
		want := "\x6C\x61\x72\x64\x65\x72\x32\x0A" + "\x00\x00\x00\x00\x00\x00\x00\x00" + words(uint64(len(body))) + body
		want += words(plainMix(20, want))
		wantLog(t, "P20.1: "+c.what, j, want)
		if s, _ := store.New(c.limit, c.over...); state(j.Store()) != state(s) {
			t.Errorf("P20.1: %s: the store is another", c.what)
		}
		if other, met := seen[want]; met {
			t.Errorf("P20.1: %s and %s: one head", c.what, other)
		}
		seen[want] = c.what
		k := recovered(t, c.what, want, 0)
		if state(k.Store()) != state(j.Store()) {
			t.Errorf("P20.6: %s: the store that is made anew is another", c.what)
		}
	}
}

// TestBeginHash: P20.1: the store's hash is the one of the overrides, that of the journal made anew, too.
func TestBeginHash(t *testing.T) {
	over := longOvers()
	j := begin(t, 4096, over...)
	for what, k := range map[string]*journal.Journal{"Begin": j, "Recover": recovered(t, "64 overrides", string(j.Log()), 0)} {
		for _, o := range over {
			if h := k.Store().Oracle().Hash(3, o.Key); h != o.Hash {
				t.Errorf("P20.1: %s: the hash of %q is %#x, want %#x", what, o.Key, h, o.Hash)
			}
		}
	}
}

// TestBeginList: W3: the list of overrides is neither changed nor kept, nor is the room behind it.
func TestBeginList(t *testing.T) {
	room := append(longOvers(), api.Over{Key: "behind", Hash: 4}, api.Over{Key: "it", Hash: 5})
	was := slices.Clone(room)
	j := begin(t, 4096, room[:api.MaxOver]...)
	log, st := string(j.Log()), state(j.Store())
	if !slices.Equal(room, was) {
		t.Fatal("W3: Begin has changed the list that it was given")
	}
	for i := range room {
		room[i] = api.Over{Key: fmt.Sprint("other ", i), Hash: 7}
	}
	wantLog(t, "W3: the overrides' list is written over", j, log)
	if state(j.Store()) != st || j.Store().Oracle().Hash(0, was[0].Key) != was[0].Hash {
		t.Error("W3: Begin has kept the list that it was given")
	}
}

// TestBeginAlone: W2: what is done to one journal is seen in no other.
func TestBeginAlone(t *testing.T) {
	j, k := begin(t, 4096), begin(t, 4096)
	if j.Store() == k.Store() || j.Store().Arena() == k.Store().Arena() {
		t.Fatal("W2: two journals share a store")
	}
	log, st := string(k.Log()), state(k.Store())
	d := draws(1)
	for range 60 {
		j.Do(d.command(j.Store()))
	}
	wantLog(t, "W2: another journal", k, log)
	if state(k.Store()) != st {
		t.Error("W2: another journal's store has changed")
	}
}
