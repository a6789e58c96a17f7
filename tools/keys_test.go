package tools_test

import (
	"fmt"
	"slices"
	"strings"
	"testing"

	"larder/api"
	"larder/store"
	"larder/tools"
)

// sizes: maps without keys, small ones, and ones with tables, few and many.
var sizes = []int{0, 1, 5, 8, 9, 14, 15, 30, 90, 200}

// risingKeys: the keys of pairs that are in order.
func risingKeys(pairs []api.Pair) []string {
	var l []string
	for _, p := range pairs {
		l = append(l, p.Key)
	}
	return l
}

// tells: Keys and Pairs answer just the pairs that lie in the map's bytes, and nothing changes.
func tells(t *testing.T, s *store.Store, h int) {
	t.Helper()
	was := state(s)
	want := pairsOf(t, s, h)
	keys, e := tools.Keys(s, h)
	if !slices.Equal(keys, risingKeys(want)) || e != api.OK {
		t.Fatalf("P18.1: Keys(%d) = %s, error %d; want %s", h, short(fmt.Sprintf("%q", keys)), e, short(risingKeys(want)))
	}
	pairs, e := tools.Pairs(s, h)
	if !slices.Equal(pairs, want) || e != api.OK {
		t.Fatalf("P18.1: Pairs(%d) = %s, error %d; want %s", h, short(fmt.Sprintf("%q", pairs)), e, short(want))
	}
	if state(s) != was {
		t.Fatalf("P18.1: behind Keys(%d) and Pairs(%d) the store is not as it was", h, h)
	}
}

// TestKeys: P18.1: maps of every size, under several hashes and descriptors, also with keys taken out again, and cleared.
func TestKeys(t *testing.T) {
	for name, of := range hashes {
		for _, fields := range [][]int{chapter, {1, 0, 1, 1, 32}, wide, {128, 128, 8, 8, 1024}} {
			for _, n := range sizes {
				s := begin(t, 1<<21, overs(of)...)
				h := made(t, s, 7, fields, numbers(0, n)...)
				tells(t, s, h)
				if l, _ := tools.Keys(s, h); len(l) != n {
					t.Fatalf("P18.1: %s: Keys tells %d keys of %d", name, len(l), n)
				}
				for i := 0; i < n; i += 3 {
					s.Delete(h, key(fields[0], i))
				}
				tells(t, s, h)
				s.Clear(h, 8)
				tells(t, s, h)
			}
		}
	}
}

// TestKeysOfTheWorld: P18.1: maps on which walks stand, one with a retired block too: neither is moved by that.
func TestKeysOfTheWorld(t *testing.T) {
	s := world(t)
	for _, h := range []int{few, many, bare, grown, longKeys, longElems} {
		tells(t, s, h)
	}
}

// TestByteByByte: P18.1: the order is that of the bytes, not of letters or signed numbers, and the first byte counts most.
func TestByteByByte(t *testing.T) {
	rising := []string{"\x00\x00\x00", "\x00\x00\xff", "\x00\x01\x00", "\x00\xff\x00", "\x01\x00\x00", " aa", "AAA", "Z\xff\xff", "a\x00b", "aBb", "aa\x7f", "aa\x80", "aa\xc3", "ab\x00", "b\x00\x00", "\x7f\xff\xff", "\x80\x00\x00", "é!", "\xfe\xff\xff", "\xff\x00\x00", "\xff\xff\xff"}
	s := begin(t, 1<<20)
	h := made(t, s, 3, []int{3, 1, 1, 1, 16})
	for i := range rising {
		s.Put(h, rising[i*8%len(rising)], "z") // 8 and 21 share nothing: each once
	}
	keys, e := tools.Keys(s, h)
	if !slices.Equal(keys, rising) || e != api.OK {
		t.Errorf("P18.1: Keys = %q, error %d; want %q", keys, e, rising)
	}
	pairs, e := tools.Pairs(s, h)
	if !slices.Equal(risingKeys(pairs), rising) || e != api.OK {
		t.Errorf("P18.1: Pairs = %q, error %d; want the keys %q", pairs, e, rising)
	}
}

// TestElemsAreNotInTheOrder: P18.1: pairs come by their keys, whatever their elems are; and the elem is that of the last put.
func TestElemsAreNotInTheOrder(t *testing.T) {
	s := begin(t, 65536)
	h := spelt(t, s, 1, chapter, "bx az ca dm bq")
	if l, e := tools.Pairs(s, h); fmt.Sprint(l) != "[{a z} {b q} {c a} {d m}]" || e != api.OK {
		t.Errorf("P18.1: Pairs = %v, error %d", l, e)
	}
}

// TestNewLists: P18.1, W3: each answer is a list of its own, its spare room too: what is done to it is seen in no other answer, nor in the map.
func TestNewLists(t *testing.T) {
	s := world(t)
	was := state(s)
	for _, h := range []int{few, many, grown} {
		keys, _ := tools.Keys(s, h)
		pairs, _ := tools.Pairs(s, h)
		wantKeys, wantPairs := strings.Join(keys, ","), fmt.Sprint(pairs)
		otherKeys, _ := tools.Keys(s, h)
		otherPairs, _ := tools.Pairs(s, h)
		clearAll(keys, "spoilt")
		clearAll(pairs, api.Pair{Key: "spoilt", Elem: "spoilt"})
		if strings.Join(otherKeys, ",") != wantKeys || fmt.Sprint(otherPairs) != wantPairs {
			t.Fatalf("W3: two answers of Keys(%d) or Pairs(%d) share memory", h, h)
		}
		tells(t, s, h)
	}
	if state(s) != was {
		t.Error("W3: what is done to a list is seen in the store")
	}
}

// clearAll: every element of the list and of the room behind it is that.
func clearAll[T any](l []T, with T) {
	l = l[:cap(l)]
	for i := range l {
		l[i] = with
	}
}

// TestKeysInAFullArena: P18.1: to tell takes no memory of the arena.
func TestKeysInAFullArena(t *testing.T) {
	s := begin(t, 256)
	h := made(t, s, 7, chapter, numbers(0, 8)...)
	if s.Live() != 256 {
		t.Fatalf("%d bytes are live", s.Live())
	}
	tells(t, s, h)
	if yes, e := tools.Equal(s, h, h); !yes || e != api.OK {
		t.Errorf("P18.2: Equal = %v, error %d", yes, e)
	}
}
