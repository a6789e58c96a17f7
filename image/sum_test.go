package image_test

import (
	"bytes"
	"math/rand"
	"testing"

	"larder/image"
	"larder/oracle"
)

// TestSum: P19.1: of no bytes, nil and empty, of few and of many; the row is neither changed nor kept.
func TestSum(t *testing.T) {
	for _, b := range [][]byte{nil, {}, make([]byte, 0, 9)} {
		if n := image.Sum(b); n != 0x49F00D4038DDD7BA || n != oracle.Mix(19, "") {
			t.Errorf("P19.1: Sum of no bytes: %#x", n)
		}
	}
	r := rand.New(rand.NewSource(19))
	for _, n := range []int{1, 2, 3, 7, 8, 9, 64, 255, 256, 257, 1000, 1 << 16, 1<<16 + 3} {
		room := make([]byte, n+8)
		r.Read(room)
		was := bytes.Clone(room)
		b := room[:n]
		want := bigSum(b)
		for range 2 {
			if got := image.Sum(b); got != want || got != plainSum(b) {
				t.Errorf("P19.1: Sum of %d bytes: %#x, want %#x", n, got, want)
			}
		}
		if !bytes.Equal(room, was) {
			t.Errorf("W3: Sum changes its bytes")
		}
	}
}

// TestSumOfFew: P19.1: all rows of one byte, and every two of them told apart.
func TestSumOfFew(t *testing.T) {
	seen := map[uint64]int{}
	for c := range 256 {
		n := image.Sum([]byte{byte(c)})
		if n != bigSum([]byte{byte(c)}) {
			t.Errorf("P19.1: Sum of the byte %d: %#x", c, n)
		}
		seen[n]++
	}
	if len(seen) != 256 {
		t.Errorf("P19.1: 256 rows of one byte have %d sums", len(seen))
	}
	if a, b := image.Sum([]byte{0}), image.Sum([]byte{0, 0}); a == b {
		t.Errorf("P19.1: one zero and two have one sum: %#x", a)
	}
}

// TestSumOfMany: P19.1: a row as long as the greatest store's image.
func TestSumOfMany(t *testing.T) {
	b := bytes.Repeat([]byte("larder"), 1<<20)
	if got, want := image.Sum(b), plainSum(b); got != want {
		t.Errorf("P19.1: Sum of %d bytes: %#x, want %#x", len(b), got, want)
	}
}
