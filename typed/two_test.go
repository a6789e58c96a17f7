package typed_test

import (
	"fmt"
	"math"
	"strings"
	"testing"

	"larder/api"
	"larder/typed"
)

// TestBothBytes: P21.5: the widths are added, the align is 1 whatever the two ask for, the bytes stand one behind the other.
func TestBothBytes(t *testing.T) {
	c := both(whole, natural)
	if c.Width() != 16 || c.Align() != 1 {
		t.Errorf("P21.5: two numbers: width %d, align %d", c.Width(), c.Align())
	}
	v := two(int64(-1), uint64(258))
	if s, yes := c.Pack(v); s != "\x7f\xff\xff\xff\xff\xff\xff\xff\x00\x00\x00\x00\x00\x00\x01\x02" || !yes || c.Unpack(s) != v {
		t.Errorf("P21.5: Pack(%v) = %x, %v, read again as %v", v, s, yes, c.Unpack(s))
	}
	d := both(truth, text(2))
	if d.Width() != 4 || d.Align() != 1 {
		t.Errorf("P21.5: truth and a text: width %d, align %d", d.Width(), d.Align())
	}
	w := two(true, "a")
	if s, yes := d.Pack(w); s != "\x01a\x00\x01" || !yes || d.Unpack(s) != w {
		t.Errorf("P21.5: Pack(%v) = %q, %v, read again as %v", w, s, yes, d.Unpack(s))
	}
	if v := d.Unpack("\x07zz\x01"); v != two(true, "z") {
		t.Errorf("P21.5: bytes that no value is laid as are read as %v", v)
	}
}

// TestBothInBoth: P21.5: a Both in a Both, on either side.
func TestBothInBoth(t *testing.T) {
	left := both(both(truth, text(1)), float)
	v := two(two(true, "q"), -1.0)
	if s, yes := left.Pack(v); left.Width() != 11 || left.Align() != 1 || s != "\x01q\x01\x40\x0f\xff\xff\xff\xff\xff\xff" || !yes || left.Unpack(s) != v {
		t.Errorf("P21.5: on the left: width %d, Pack(%v) = %q, %v, read again as %v", left.Width(), v, s, yes, left.Unpack(s))
	}
	right := both(float, both(truth, text(1)))
	w := two(1.0, two(false, ""))
	if s, yes := right.Pack(w); right.Width() != 11 || right.Align() != 1 || s != "\xbf\xf0\x00\x00\x00\x00\x00\x00\x00\x00\x00" || !yes || right.Unpack(s) != w {
		t.Errorf("P21.5: on the right: width %d, Pack(%v) = %q, %v, read again as %v", right.Width(), w, s, yes, right.Unpack(s))
	}
	deep := both(left, both(right, left))
	z := two(v, two(w, two(two(false, "z"), math.Inf(1))))
	s, yes := deep.Pack(z)
	if want := laid(t, left, v) + laid(t, right, w) + laid(t, left, z.Second.Second); deep.Width() != 33 || s != want || !yes || deep.Unpack(s) != z {
		t.Errorf("P21.5: Boths in Boths: width %d, %x, %v, read again as %v", deep.Width(), s, yes, deep.Unpack(s))
	}
	z.Second.Second.First.Second = "zz"
	if s, yes := deep.Pack(z); s != "" || yes {
		t.Errorf("P21.5: one that can't be laid, deep inside: %x, %v", s, yes)
	}
	if v := deep.Unpack(strings.Repeat("\x01", 32)); v != (typed.Two[typed.Two[typed.Two[bool, string], float64], typed.Two[typed.Two[float64, typed.Two[bool, string]], typed.Two[typed.Two[bool, string], float64]]]{}) {
		t.Errorf("P21.5: a byte too few is read as %v", v)
	}
}

// TestBothNotLaid: P21.5: where one of the two can't be laid, the pair can't be: nothing is answered beside false.
func TestBothNotLaid(t *testing.T) {
	c := both(text(2), text(3))
	for _, v := range []typed.Two[string, string]{two("abc", "a"), two("a", "abcd"), two("abc", "abcd"), two("abcd", ""), two("", "abcd")} {
		if s, yes := c.Pack(v); s != "" || yes {
			t.Errorf("P21.5: Pack(%v) = %q, %v", v, s, yes)
		}
	}
	for _, c := range []typed.Codec[typed.Two[string, string]]{both(text(-1), text(3)), both(text(3), text(128)), both(text(128), text(-1))} {
		if s, yes := c.Pack(two("", "")); s != "" || yes {
			t.Errorf("P21.5: with a Most out of range: %q, %v", s, yes)
		}
	}
	// A codec may answer bytes beside its false: they are not handed on.
	rude := own[string]{3, 1, func(v string) (string, bool) { return "abc", v == "good" }, func(s string) string { return s }}
	for _, v := range []typed.Two[string, string]{two("bad", "good"), two("good", "bad"), two("bad", "bad")} {
		if s, yes := both[string, string](rude, rude).Pack(v); s != "" || yes {
			t.Errorf("P21.5: bytes beside a false: %v: %q, %v", v, s, yes)
		}
	}
	if s, yes := both[string, string](rude, rude).Pack(two("good", "good")); s != "abcabc" || !yes {
		t.Errorf("P21.5: %q, %v", s, yes)
	}
}

// TestBothOtherLengths: P21.5: of a string of any other length the Two is one of zero values, and the parts are not asked.
func TestBothOtherLengths(t *testing.T) {
	asked := 0
	loud := func(width int) typed.Codec[string] {
		return own[string]{width, 1, func(v string) (string, bool) { return v, true }, func(s string) string { asked++; return "loud" }}
	}
	for first := range 5 {
		for second := range 5 {
			c := both(loud(first), loud(second))
			for size := range 20 {
				asked = 0
				v := c.Unpack(strings.Repeat("\x01", size))
				if size == first+second {
					if v != two("loud", "loud") || asked != 2 {
						t.Errorf("P21.5: widths %d and %d, %d bytes: %v, %d askings", first, second, size, v, asked)
					}
					continue
				}
				if v != two("", "") || asked != 0 {
					t.Errorf("P21.5: widths %d and %d, %d bytes: %v, %d askings", first, second, size, v, asked)
				}
			}
		}
	}
}

// TestBothCuts: P21.5: each part is handed just its own bytes: the first as many as its width.
func TestBothCuts(t *testing.T) {
	for first := range 9 {
		for second := range 9 {
			s := filler(first + second)
			want := two("<"+s[:first]+">", "<"+s[first:]+">")
			if v := both(raw(first, 3), raw(second, -7)).Unpack(s); v != want {
				t.Errorf("P21.5: widths %d and %d: %q is read as %q, want %q", first, second, s, v, want)
			}
		}
	}
	if a := both(raw(4, 3), raw(4, -7)).Align(); a != 1 {
		t.Errorf("P21.5: align %d", a)
	}
	if s, yes := both(raw(4, 1), raw(4, 1)).Pack(two("four", "five")); s != "fourfive" || !yes {
		t.Errorf("P21.5: %q, %v", s, yes)
	}
	if s, yes := both(raw(4, 1), raw(4, 1)).Pack(two("none", "five")); s != "" || yes {
		t.Errorf("P21.5: %q, %v", s, yes)
	}
}

// TestBothOfNothing: P21.5: codecs of no bytes: the pair is laid as nothing at all, and is laid all the same.
func TestBothOfNothing(t *testing.T) {
	c := both(raw(0, 1), raw(0, 1))
	if s, yes := c.Pack(two("", "")); c.Width() != 0 || s != "" || !yes {
		t.Errorf("P21.5: width %d, %q, %v", c.Width(), s, yes)
	}
	if v := c.Unpack(""); v != two("<>", "<>") {
		t.Errorf("P21.5: the empty string is read as %q", v)
	}
}

// TestBothHuge: P21.5, W1: codecs whose widths no int can hold together: the width does not become one that a map takes, and strings are read as zero values.
func TestBothHuge(t *testing.T) {
	s := begin(t, 65536)
	for _, c := range []typed.Codec[typed.Two[string, string]]{both(raw(most, 1), raw(most, 1)), both(raw(most, 1), raw(1, 1)), both(raw(1, 1), raw(most, 1)), both(raw(most, 1), raw(0, 1)), both(raw(1<<62, 1), raw(1<<62, 1)), both(raw(most-3, 1), raw(3, 1))} {
		if w := c.Width(); w != most {
			t.Errorf("P21.5: width %d", w)
		}
		for _, bytes := range []string{"", "\x01", "abcd", filler(128)} {
			if v := c.Unpack(bytes); v != two("", "") {
				t.Errorf("P21.5: %q is read as %q", bytes, v)
			}
		}
		round := both(both(c, c), raw(10, 1)) // twice the greatest int and ten more would be eight, if it went round
		for _, w := range []int{c.Width(), both(c, c).Width(), both(c, raw(1, 1)).Width(), round.Width()} {
			if w != most {
				t.Errorf("P21.5: width %d", w)
			}
		}
		if m, e := typed.Make(s, round, whole, 16, 0, 0); m != nil || e != api.ErrCodec {
			t.Errorf("P21.8: a map of %d bytes: error %d", round.Width(), e)
		}
		if m, e := typed.Make(s, whole, round, 16, 0, 0); m != nil || e != api.ErrCodec {
			t.Errorf("P21.8: a map of %d bytes: error %d", round.Width(), e)
		}
	}
	if c := both(raw(most-4, 1), raw(3, 1)); c.Width() != most-1 {
		t.Errorf("P21.5: width %d", c.Width())
	}
}

// TestBothIsAValue: P21.5: a Both is a struct of its two parts: who lays it out by hand has the same codec.
func TestBothIsAValue(t *testing.T) {
	c := typed.Both[int64, string]{First: typed.Int{}, Second: typed.Text{Most: 3}}
	v := typed.Two[int64, string]{First: 7, Second: "ab"}
	if s, yes := c.Pack(v); !yes || s != laid(t, both(whole, text(3)), v) || fmt.Sprint(c.Unpack(s)) != "{7 ab}" {
		t.Errorf("P21.5: %x, %v", s, yes)
	}
}
