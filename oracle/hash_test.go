package oracle_test

import (
	"math/rand"
	"strings"
	"sync"
	"testing"

	"larder/api"
	"larder/oracle"
)

func TestHashOfOverrides(t *testing.T) {
	var over []api.Over
	for i, h := range hashes {
		over = append(over, api.Over{Key: strings.Repeat("o", i+1), Hash: h})
	}
	o := made(t, over...)
	for _, v := range over {
		gives(t, o, v.Key, v.Hash)
	}
	// An override may say what the mixer would say too, or give two keys one hash.
	same := made(t, api.Over{Key: "a", Hash: oracle.Mix(7, "a")}, api.Over{Key: "b", Hash: oracle.Mix(7, "a")})
	gives(t, same, "a", told(7, "a"))
	gives(t, same, "b", told(7, "a"))
}

func TestHashOfOtherKeys(t *testing.T) {
	none, some := made(t), made(t, api.Over{Key: "an override", Hash: 5}, api.Over{Key: "no", Hash: 6})
	for _, k := range append(keys(), "an overridE", "an override ", "an overrid", "n override", "o", "on", strings.Repeat("z", 1<<16)) {
		mixes(t, none, k)
		mixes(t, some, k)
	}
	for i := range 256 {
		mixes(t, some, string([]byte{byte(i)}))
	}
	mixes(t, none, "no")
	gives(t, some, "no", 6)
}

// TestHashKeepsNothing: what a seed gives for a key hangs on no call ahead of it.
func TestHashKeepsNothing(t *testing.T) {
	o := made(t, api.Over{Key: "a", Hash: 5})
	fresh := func(seed uint64, key string) uint64 { return made(t, api.Over{Key: "a", Hash: 5}).Hash(seed, key) }
	r := rand.New(rand.NewSource(1))
	all := append(keys(), "b")
	for range 3000 {
		s, k := seeds[r.Intn(len(seeds))], all[r.Intn(len(all))]
		if h, want := o.Hash(s, k), fresh(s, k); h != want {
			t.Fatalf("P4.2: Hash(%d, %.40q) = %#x behind other calls, %#x in a new oracle", s, k, h, want)
		}
	}
}

// TestOraclesApart: each has its own overrides, whichever was made first, also behind a New that is refused.
func TestOraclesApart(t *testing.T) {
	first := made(t, api.Over{Key: "a", Hash: 1}, api.Over{Key: "b", Hash: 2})
	gives(t, first, "a", 1)
	second := made(t, api.Over{Key: "a", Hash: 3}, api.Over{Key: "c", Hash: 4})
	refuses(t, api.ErrTwice, api.Over{Key: "a", Hash: 9}, api.Over{Key: "d", Hash: 9}, api.Over{Key: "a", Hash: 9})
	third := made(t)
	for range 2 {
		gives(t, first, "a", 1)
		gives(t, second, "a", 3)
		mixes(t, third, "a")
		gives(t, first, "b", 2)
		mixes(t, second, "b")
		mixes(t, first, "c")
		gives(t, second, "c", 4)
		mixes(t, first, "d")
		mixes(t, third, "d")
	}
	// The same list twice gives two oracles, not one.
	if l := row(3); made(t, l...) == made(t, l...) {
		t.Errorf("P4.2: one oracle for two calls of New")
	}
}

// TestHashAtOnce: Hash changes nothing, so many may ask at once.
func TestHashAtOnce(t *testing.T) {
	o := made(t, row(64)...)
	var all sync.WaitGroup
	for range 8 {
		all.Go(func() {
			for _, v := range row(64) {
				gives(t, o, v.Key, v.Hash)
				mixes(t, o, v.Key+"!")
			}
		})
	}
	all.Wait()
}
