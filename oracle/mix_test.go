package oracle_test

import (
	"math/rand"
	"strings"
	"testing"

	"larder/oracle"
)

func TestMix(t *testing.T) {
	for _, s := range seeds {
		for _, k := range keys() {
			if h, want := oracle.Mix(s, k), told(s, k); h != want {
				t.Errorf("P4.3: Mix(%d, %.40q) = %#x, want %#x", s, k, h, want)
			}
		}
	}
	r := rand.New(rand.NewSource(43))
	for range 5000 {
		b := make([]byte, r.Intn(140))
		r.Read(b)
		if s, k := r.Uint64(), string(b); oracle.Mix(s, k) != told(s, k) {
			t.Fatalf("P4.3: Mix(%d, %q) = %#x, want %#x", s, k, oracle.Mix(s, k), told(s, k))
		}
	}
	if long := strings.Repeat("long\xff", 1<<14); oracle.Mix(greatest, long) != told(greatest, long) {
		t.Errorf("P4.3: Mix of %d bytes is wrong", len(long))
	}
}

// TestMixCanBeUndone: a hash and its key fix the seed.
func TestMixCanBeUndone(t *testing.T) {
	for _, s := range seeds {
		for _, k := range keys() {
			if back := undone(oracle.Mix(s, k), k); back != s {
				t.Errorf("P4.4: Mix(%d, %.40q) undone is %d", s, k, back)
			}
		}
	}
}

// TestSeedsApart: one key under many seeds: those next to one another, those that differ in one bit, any.
func TestSeedsApart(t *testing.T) {
	r := rand.New(rand.NewSource(44))
	many := append([]uint64{}, seeds...)
	for i := range uint64(500) {
		many = append(many, i, greatest-i, i<<32, i<<55, r.Uint64())
	}
	for bit := range 64 {
		many = append(many, 1<<bit, 12345^1<<bit, greatest^1<<bit)
	}
	for _, k := range keys() {
		from := map[uint64]uint64{}
		for _, s := range many {
			h := oracle.Mix(s, k)
			if was, there := from[h]; there && was != s {
				t.Fatalf("P4.4: Mix of %.40q under the seeds %d and %d is %#x", k, was, s, h)
			}
			from[h] = s
		}
	}
}

// TestKeysApart: one seed, and at each place of a key each of the 256 bytes.
func TestKeysApart(t *testing.T) {
	for _, s := range seeds {
		for _, k := range keys() {
			for at := 0; at < len(k); at += 1 + len(k)/9 {
				apartAt(t, s, []byte(k), at)
			}
			if len(k) > 0 {
				apartAt(t, s, []byte(k), len(k)-1)
			}
		}
	}
}

// apartAt: the 256 keys that are like k but in one byte have 256 hashes.
func apartAt(t *testing.T, seed uint64, k []byte, at int) {
	t.Helper()
	from := map[uint64]int{}
	for c := range 256 {
		k[at] = byte(c)
		from[oracle.Mix(seed, string(k))] = c
	}
	if len(from) != 256 {
		t.Errorf("P4.4: seed %d, keys of %d bytes that differ at %d: %d hashes, want 256", seed, len(k), at, len(from))
	}
}
