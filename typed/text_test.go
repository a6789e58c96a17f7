package typed_test

import (
	"math"
	"math/rand"
	"strings"
	"testing"

	"larder/typed"
)

// outOfRange: what no Text may have as its Most.
var outOfRange = []int{-1, -2, -126, -127, -128, -129, -255, -256, -257, math.MinInt8, math.MinInt32, math.MinInt + 1, math.MinInt, 128, 129, 255, 256, 257, 256 + 3, 511, 65536, 1<<31 - 1, 1 << 32, 1<<32 + 3, math.MaxInt - 1, math.MaxInt}

// filler: a text of so many bytes, none of them like its neighbours.
func filler(n int) string {
	b := make([]byte, n)
	for i := range b {
		b[i] = byte(i*7 + 3)
	}
	return string(b)
}

// TestTextWidth: P21.4: Most from -1 to 128, and as far as an int goes.
func TestTextWidth(t *testing.T) {
	for n := range 128 {
		if c := (typed.Text{Most: n}); c.Width() != n+1 || c.Align() != 1 {
			t.Errorf("P21.4: Text{%d}: width %d, align %d", n, c.Width(), c.Align())
		}
	}
	for _, n := range outOfRange {
		if c := (typed.Text{Most: n}); c.Width() != 0 || c.Align() != 1 {
			t.Errorf("P21.4: Text{%d}: width %d, align %d", n, c.Width(), c.Align())
		}
	}
}

// TestTextPack: P21.4: each Most with texts of each length around it: the bytes, zeros, the length; or "" and false.
func TestTextPack(t *testing.T) {
	for n := range 128 {
		c := text(n)
		for size := range 140 {
			for _, v := range []string{filler(size), strings.Repeat("\x00", size), strings.Repeat("\xff", size)} {
				s, yes := c.Pack(v)
				if size > n {
					if s != "" || yes {
						t.Fatalf("P21.4: Text{%d}: a text of %d bytes: %q, %v", n, size, s, yes)
					}
					continue
				}
				if want := v + strings.Repeat("\x00", n-size) + string([]byte{byte(size)}); s != want || !yes {
					t.Fatalf("P21.4: Text{%d}: Pack(%q) = %q, %v; want %q", n, v, s, yes, want)
				}
				if again := c.Unpack(s); again != v {
					t.Fatalf("P21.6: Text{%d}: %q is read again as %q", n, v, again)
				}
			}
		}
	}
}

// TestTextPackLong: P21.4: a text whose length, taken as a byte, would be short enough can't be laid.
func TestTextPackLong(t *testing.T) {
	for _, size := range []int{256, 257, 258, 259, 260, 512, 65536, 1 << 20} {
		for _, n := range []int{0, 3, 100, 127} {
			if s, yes := text(n).Pack(strings.Repeat("a", size)); s != "" || yes {
				t.Errorf("P21.4: Text{%d}: a text of %d bytes: %q, %v", n, size, s, yes)
			}
		}
	}
}

// TestTextOutOfRange: P21.4: of a Most out of range no text can be laid, and whatever is read is "".
func TestTextOutOfRange(t *testing.T) {
	for _, n := range outOfRange {
		c := text(n)
		for _, v := range []string{"", "a", "abc", filler(127), filler(128), filler(256), filler(300)} {
			if s, yes := c.Pack(v); s != "" || yes {
				t.Errorf("P21.4: Text{%d}: Pack(%q) = %q, %v", n, v, s, yes)
			}
		}
		for size := range 300 {
			for _, last := range []string{"\x00", "\x01", "\x7f", "\x80", "\xff"} {
				if v := c.Unpack(filler(size) + last); v != "" {
					t.Errorf("P21.4: Text{%d}: a string of %d bytes is read as %q", n, size+1, v)
				}
			}
		}
		if v := c.Unpack(""); v != "" {
			t.Errorf("P21.4: Text{%d}: the empty string is read as %q", n, v)
		}
	}
}

// TestTextUnpack: P21.4: each Most with each of the 256 last bytes, and whatever lies behind the first n ones.
func TestTextUnpack(t *testing.T) {
	for most := range 128 {
		for _, body := range []string{filler(most), strings.Repeat("\x00", most), strings.Repeat("\xff", most)} {
			for n := range 256 {
				want := ""
				if n <= most {
					want = body[:n]
				}
				if v := text(most).Unpack(body + string([]byte{byte(n)})); v != want {
					t.Fatalf("P21.4: Text{%d}: %q and a byte %d: %q, want %q", most, body, n, v, want)
				}
			}
		}
	}
}

// TestTextOtherLengths: P21.4: a string of any other length than the width is read as "".
func TestTextOtherLengths(t *testing.T) {
	for most := range 128 {
		for size := range 300 {
			if size == most+1 {
				continue
			}
			for _, last := range []byte{0, 1, byte(min(size, most)), byte(most), 127, 255} {
				s := filler(size)
				if size > 0 {
					s = s[:size-1] + string([]byte{last})
				}
				if v := text(most).Unpack(s); v != "" {
					t.Fatalf("P21.4: Text{%d}: %q is read as %q", most, s, v)
				}
			}
		}
	}
}

// TestTextWithZeros: P21.4: zeros in a text are a part of it, at its end too.
func TestTextWithZeros(t *testing.T) {
	c := text(4)
	for v, want := range map[string]string{"": "\x00\x00\x00\x00\x00", "\x00": "\x00\x00\x00\x00\x01", "\x00\x00": "\x00\x00\x00\x00\x02", "a\x00": "a\x00\x00\x00\x02", "a\x00b": "a\x00b\x00\x03", "\x00\x00\x00\x00": "\x00\x00\x00\x00\x04", "a": "a\x00\x00\x00\x01", "é": "\xc3\xa9\x00\x00\x02", "\xff\xfe": "\xff\xfe\x00\x00\x02"} {
		if s, yes := c.Pack(v); s != want || !yes || c.Unpack(s) != v {
			t.Errorf("P21.4: Pack(%q) = %q, %v, read again as %q; want %q", v, s, yes, c.Unpack(s), want)
		}
	}
}

// TestTextAnyBytes: P21.4, W1: any bytes with any Most are read, by the chapter's words.
func TestTextAnyBytes(t *testing.T) {
	r := rand.New(rand.NewSource(6))
	for range 20000 {
		b := make([]byte, r.Intn(12))
		for i := range b {
			b[i] = byte(r.Intn(10))
		}
		most := r.Intn(14) - 1
		want := ""
		if size := len(b); size == most+1 && most >= 0 && int(b[size-1]) <= most {
			want = string(b[:b[size-1]])
		}
		if v := text(most).Unpack(string(b)); v != want {
			t.Fatalf("P21.4: Text{%d}: %q is read as %q, want %q", most, b, v, want)
		}
	}
}
