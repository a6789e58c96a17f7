package typed_test

import (
	"math"
	"math/big"
	"math/rand"
	"strings"
	"testing"
)

// plainBytes: a number from 0 to 2^64-1 as eight bytes, the highest first, by plain arithmetic.
func plainBytes(n *big.Int) string {
	b := make([]byte, 8)
	n.FillBytes(b)
	return string(b)
}

// wholes: numbers at which a byte, a sign or a carry changes.
func wholes() []int64 {
	l := []int64{math.MinInt64, math.MinInt64 + 1, -258, -257, -256, -255, -2, -1, 0, 1, 2, 127, 128, 255, 256, 257, 258, math.MaxInt64 - 1, math.MaxInt64, 0x0102030405060708, -0x0102030405060708}
	for i := range 63 {
		l = append(l, 1<<i, 1<<i-1, -1<<i, -1<<i-1)
	}
	return l
}

// naturals: the same, and those above the greatest int64.
func naturals() []uint64 {
	l := []uint64{math.MaxUint64, math.MaxUint64 - 1, 1 << 63, 1<<63 - 1, 1<<63 + 1, 0xF1F2F3F4F5F6F7F8}
	for _, v := range wholes() {
		l = append(l, uint64(v))
	}
	return l
}

// otherLengths: strings that no codec of eight bytes reads.
func otherLengths() []string {
	var l []string
	for n := range 130 {
		if n != 8 {
			l = append(l, strings.Repeat("\x00", n), strings.Repeat("\x80", n), strings.Repeat("\xff", n), strings.Repeat("a", n), strings.Repeat("\x40", n))
		}
	}
	return l
}

// TestIntBytes: P21.1: each byte is one of v + 2^63, reckoned without a bound; it is read back.
func TestIntBytes(t *testing.T) {
	l := wholes()
	r := rand.New(rand.NewSource(1))
	for range 2000 {
		l = append(l, int64(r.Uint64()), int64(r.Uint64())>>r.Intn(64))
	}
	half := new(big.Int).Lsh(big.NewInt(1), 63)
	for _, v := range l {
		want := plainBytes(new(big.Int).Add(big.NewInt(v), half))
		if s, yes := whole.Pack(v); s != want || !yes {
			t.Errorf("P21.1: Int: Pack(%d) = %x, %v; want %x", v, s, yes, want)
		}
		if n := whole.Unpack(want); n != v {
			t.Errorf("P21.1: Int: Unpack(%x) = %d, want %d", want, n, v)
		}
	}
}

// TestUintBytes: P21.1: each byte is one of v.
func TestUintBytes(t *testing.T) {
	l := naturals()
	r := rand.New(rand.NewSource(2))
	for range 2000 {
		l = append(l, r.Uint64(), r.Uint64()>>r.Intn(64))
	}
	for _, v := range l {
		want := plainBytes(new(big.Int).SetUint64(v))
		if s, yes := natural.Pack(v); s != want || !yes {
			t.Errorf("P21.1: Uint: Pack(%d) = %x, %v; want %x", v, s, yes, want)
		}
		if n := natural.Unpack(want); n != v {
			t.Errorf("P21.1: Uint: Unpack(%x) = %d, want %d", want, n, v)
		}
	}
}

// TestAnyEightBytes: P21.1: every string of eight bytes is some value's: it is read, and laid again as it was.
func TestAnyEightBytes(t *testing.T) {
	r := rand.New(rand.NewSource(3))
	b := make([]byte, 8)
	for range 5000 {
		for i := range b {
			b[i] = byte(r.Intn(256)) * byte(r.Intn(2))
		}
		s := string(b)
		if again, yes := whole.Pack(whole.Unpack(s)); again != s || !yes {
			t.Errorf("P21.1: Int: %x is read as %d, and laid as %x, %v", s, whole.Unpack(s), again, yes)
		}
		if again, yes := natural.Pack(natural.Unpack(s)); again != s || !yes {
			t.Errorf("P21.1: Uint: %x is read as %d, and laid as %x, %v", s, natural.Unpack(s), again, yes)
		}
	}
}

// TestNumbersWidth: P21.1, P21.2: eight bytes, at a multiple of eight.
func TestNumbersWidth(t *testing.T) {
	if w, a := whole.Width(), whole.Align(); w != 8 || a != 8 {
		t.Errorf("P21.1: Int: width %d, align %d", w, a)
	}
	if w, a := natural.Width(), natural.Align(); w != 8 || a != 8 {
		t.Errorf("P21.1: Uint: width %d, align %d", w, a)
	}
	if w, a := float.Width(), float.Align(); w != 8 || a != 8 {
		t.Errorf("P21.2: Float: width %d, align %d", w, a)
	}
}

// TestNumbersOtherLengths: P21.1, P21.2: a string of any other length is read as 0, and as no other zero.
func TestNumbersOtherLengths(t *testing.T) {
	for _, s := range otherLengths() {
		if v := whole.Unpack(s); v != 0 {
			t.Errorf("P21.1: Int: Unpack(%x) = %d", s, v)
		}
		if v := natural.Unpack(s); v != 0 {
			t.Errorf("P21.1: Uint: Unpack(%x) = %d", s, v)
		}
		if v := float.Unpack(s); v != 0 || math.Signbit(v) {
			t.Errorf("P21.2: Float: Unpack(%x) = %v", s, v)
		}
	}
}

// TestTruth: P21.3: each of the 256 bytes, and strings of other lengths.
func TestTruth(t *testing.T) {
	if w, a := truth.Width(), truth.Align(); w != 1 || a != 1 {
		t.Errorf("P21.3: width %d, align %d", w, a)
	}
	if s, yes := truth.Pack(false); s != "\x00" || !yes {
		t.Errorf("P21.3: Pack(false) = %q, %v", s, yes)
	}
	if s, yes := truth.Pack(true); s != "\x01" || !yes {
		t.Errorf("P21.3: Pack(true) = %q, %v", s, yes)
	}
	for n := range 256 {
		b := string([]byte{byte(n)})
		if v := truth.Unpack(b); v != (n != 0) {
			t.Errorf("P21.3: Unpack(%q) = %v", b, v)
		}
		for _, s := range []string{"", b + b, b + "\x00", "\x00" + b, b + b + b, strings.Repeat(b, 128)} {
			if truth.Unpack(s) {
				t.Errorf("P21.3: Unpack(%q) = true", s)
			}
		}
	}
}
