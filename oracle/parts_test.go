package oracle_test

import (
	"math"
	"math/rand"
	"strconv"
	"testing"

	"larder/oracle"
)

// manyHashes: the edges, each single bit and each bit left out, and some more.
func manyHashes() []uint64 {
	r := rand.New(rand.NewSource(45))
	l := append([]uint64{}, hashes...)
	for bit := range 64 {
		l = append(l, 1<<bit, ^uint64(1<<bit), greatest<<bit, greatest>>bit)
	}
	for range 500 {
		l = append(l, r.Uint64())
	}
	return l
}

// bits: a hash as 64 digits, the highest first.
func bits(h uint64) string {
	s := strconv.FormatUint(h, 2)
	for len(s) < 64 {
		s = "0" + s
	}
	return s
}

// number: what binary digits say.
func number(digits string) uint64 {
	n := uint64(0)
	for _, c := range digits {
		n = 2*n + uint64(c-'0')
	}
	return n
}

// depths: those that the chapter names, those beside them, and the ends of what an int can be.
var depths = []int{math.MinInt, math.MinInt + 1, math.MinInt + 63, math.MinInt + 64, -1 << 32, -65, -64, -63, -58, -7, -6, -2, -1, 0, 1, 2, 3, 4, 5, 6, 7, 8, 31, 32, 33, 57, 58, 61, 62, 63, 64, 65, 70, 127, 128, 256, 1 << 32, 1<<32 + 1, math.MaxInt - 1, math.MaxInt}

func TestTagAndHome(t *testing.T) {
	for _, h := range manyHashes() {
		tag, home := oracle.Tag(h), oracle.Home(h)
		if d := bits(h); uint64(tag) != number(d[57:]) || home != number(d[:57]) {
			t.Errorf("P4.5: of %#x: Tag %d, Home %#x, want %d, %#x", h, tag, home, number(d[57:]), number(d[:57]))
		}
		if tag < 0 || tag > 127 || h != 128*home+uint64(tag) {
			t.Errorf("P4.5: %#x is not 128 times %#x plus %d", h, home, tag)
		}
	}
}

func TestTop(t *testing.T) {
	for _, h := range manyHashes() {
		for _, depth := range depths {
			want := 0
			if depth >= 1 && depth <= 6 {
				want = int(number(bits(h)[:depth]))
			}
			if n := oracle.Top(h, depth); n != want {
				t.Errorf("P4.6: Top(%#x, %d) = %d, want %d", h, depth, n, want)
			}
		}
	}
}

func TestBit(t *testing.T) {
	for _, h := range manyHashes() {
		for _, depth := range depths {
			want := 0
			if depth >= 0 && depth <= 63 {
				want = int(bits(h)[depth] - '0')
			}
			if n := oracle.Bit(h, depth); n != want {
				t.Errorf("P4.6: Bit(%#x, %d) = %d, want %d", h, depth, n, want)
			}
		}
	}
}

func TestTopFromBit(t *testing.T) {
	for _, h := range manyHashes() {
		for depth := range 6 {
			if deeper, want := oracle.Top(h, depth+1), 2*oracle.Top(h, depth)+oracle.Bit(h, depth); deeper != want {
				t.Errorf("P4.6: Top(%#x, %d) = %d, want 2 times Top plus Bit at %d: %d", h, depth+1, deeper, depth, want)
			}
		}
	}
}
