package typed_test

import (
	"cmp"
	"math"
	"math/rand"
	"strings"
	"testing"

	"larder/typed"
)

// The order of the values, by the chapter's words: below 0, 0 or above it.

// byFloat: by number, -Inf to +Inf and then NaN; the zeros are one value, and so are the NaNs.
func byFloat(v, w float64) int {
	switch {
	case math.IsNaN(v) && math.IsNaN(w):
		return 0
	case math.IsNaN(v):
		return 1
	case math.IsNaN(w):
		return -1
	case v < w:
		return -1
	case v > w:
		return 1
	}
	return 0
}

func byTruth(v, w bool) int {
	switch {
	case v == w:
		return 0
	case w:
		return -1
	}
	return 1
}

// byText: byte by byte; a beginning ahead of what it begins.
func byText(v, w string) int {
	for i := range min(len(v), len(w)) {
		if v[i] != w[i] {
			return cmp.Compare(v[i], w[i])
		}
	}
	return cmp.Compare(len(v), len(w))
}

// byTwo: by the First, and where these are the same by the Second.
func byTwo[A, B any](byFirst func(v, w A) int, bySecond func(v, w B) int) func(v, w typed.Two[A, B]) int {
	return func(v, w typed.Two[A, B]) int {
		if c := byFirst(v.First, w.First); c != 0 {
			return c
		}
		return bySecond(v.Second, w.Second)
	}
}

// keepsOrder: P21.6 and P21.7 of each pair of the values: each is read again as the value, and the bytes are in the values' order; they are the same just where the values are.
func keepsOrder[T any](t *testing.T, what string, c typed.Codec[T], by func(v, w T) int, values []T) {
	t.Helper()
	var bytes []string
	for _, v := range values {
		s := laid(t, c, v)
		if again := c.Unpack(s); by(v, again) != 0 {
			t.Errorf("P21.6: %s: %v is read again as %v", what, v, again)
		}
		bytes = append(bytes, s)
	}
	for i, v := range values {
		for j, w := range values {
			if got, want := strings.Compare(bytes[i], bytes[j]), by(v, w); got != want {
				t.Fatalf("P21.7: %s: %v and %v: the bytes %q and %q: %d, want %d", what, v, w, bytes[i], bytes[j], got, want)
			}
		}
	}
}

func floatsAndNans() []float64 { return append(floats(), nans()...) }

// shortTexts: all texts of at most three bytes out of a few, the least and the greatest byte among them.
func shortTexts() []string {
	l := []string{""}
	for from := 0; len(l[from]) < 3; from++ {
		for _, b := range []string{"\x00", "\x01", "a", "\xff"} {
			l = append(l, l[from]+b)
		}
	}
	return l
}

// TestOrder: P21.6, P21.7: pairs of values of every kind.
func TestOrder(t *testing.T) {
	keepsOrder(t, "Int", whole, cmp.Compare[int64], wholes())
	keepsOrder(t, "Uint", natural, cmp.Compare[uint64], naturals())
	keepsOrder(t, "Float", float, byFloat, floatsAndNans())
	keepsOrder(t, "Bool", truth, byTruth, []bool{false, true})
	keepsOrder(t, "Text{3}", text(3), byText, shortTexts())
	keepsOrder(t, "Text{4}", text(4), byText, shortTexts())
	keepsOrder(t, "Text{127}", text(127), byText, append(shortTexts(), filler(126), filler(127), strings.Repeat("\x00", 126), strings.Repeat("\x00", 127), strings.Repeat("\xff", 127), strings.Repeat("\xff", 126)))
	keepsOrder(t, "Text{0}", text(0), byText, []string{""})
}

// TestFloatsRise: P21.7: a list that is written down in rising order is laid in rising order: the two zeros as one.
func TestFloatsRise(t *testing.T) {
	last := ""
	for _, v := range append(floats(), math.NaN()) {
		s := laid(t, float, v)
		if s <= last && v != 0 {
			t.Errorf("P21.7: Float: %v is laid as %x, behind %x", v, s, last)
		}
		last = s
	}
}

// TestZerosAndNans: P21.6: the negative zero is read again as zero, a NaN as a NaN, and in a Two likewise.
func TestZerosAndNans(t *testing.T) {
	c := both(float, both(truth, float))
	if v := float.Unpack(laid(t, float, minusZero)); v != 0 || math.Signbit(v) {
		t.Errorf("P21.6: the negative zero is read again as %v", v)
	}
	v := c.Unpack(laid(t, c, two(minusZero, two(true, minusZero))))
	if v != two(0.0, two(true, 0.0)) || math.Signbit(v.First) || math.Signbit(v.Second.Second) {
		t.Errorf("P21.6: negative zeros in a Two are read again as %v", v)
	}
	for _, n := range nans() {
		if v := float.Unpack(laid(t, float, n)); v == v {
			t.Errorf("P21.6: the NaN %x is read again as %v", math.Float64bits(n), v)
		}
		if v := c.Unpack(laid(t, c, two(n, two(false, n)))); v.First == v.First || v.Second.Second == v.Second.Second || v.Second.First {
			t.Errorf("P21.6: NaNs in a Two are read again as %v", v)
		}
	}
}

// each: all Twos of values of two lists.
func each[A, B any](firsts []A, seconds []B) []typed.Two[A, B] {
	var l []typed.Two[A, B]
	for _, a := range firsts {
		for _, b := range seconds {
			l = append(l, two(a, b))
		}
	}
	return l
}

// TestOrderOfTwos: P21.6, P21.7: Twos of all kinds, many with the same First: zeros and what is no number among them.
func TestOrderOfTwos(t *testing.T) {
	fewInts := []int64{math.MinInt64, -1, 0, 1, math.MaxInt64}
	fewTexts := []string{"", "\x00", "a", "a\x00", "a\x00a", "ab", "b", "\xff", "\xff\xff\xff"}
	fewFloats := []float64{math.Inf(-1), -2, -math.SmallestNonzeroFloat64, minusZero, 0, 1, math.Inf(1), math.NaN(), math.Float64frombits(0xfff0000000000001)}
	truths := []bool{false, true}
	keepsOrder(t, "a number and a text", both(whole, text(3)), byTwo(cmp.Compare[int64], byText), each(fewInts, fewTexts))
	keepsOrder(t, "a text and a number", both(text(3), whole), byTwo(byText, cmp.Compare[int64]), each(fewTexts, fewInts))
	keepsOrder(t, "two texts", both(text(3), text(4)), byTwo(byText, byText), each(fewTexts, fewTexts))
	keepsOrder(t, "a float and truth", both(float, truth), byTwo(byFloat, byTruth), each(fewFloats, truths))
	keepsOrder(t, "truth and a float", both(truth, float), byTwo(byTruth, byFloat), each(truths, fewFloats))
	keepsOrder(t, "two floats", both(float, float), byTwo(byFloat, byFloat), each(fewFloats, fewFloats))
	keepsOrder(t, "two in the first", both(both(text(3), truth), natural), byTwo(byTwo(byText, byTruth), cmp.Compare[uint64]), each(each(fewTexts, truths), []uint64{0, 1, math.MaxUint64}))
	keepsOrder(t, "two in the second", both(truth, both(float, text(3))), byTwo(byTruth, byTwo(byFloat, byText)), each(truths, each(fewFloats, fewTexts)))
}

// TestOrderDrawn: P21.6, P21.7: values that are drawn.
func TestOrderDrawn(t *testing.T) {
	r := rand.New(rand.NewSource(7))
	for range 20 {
		var ints []int64
		var bits []float64
		var texts []string
		var twos []typed.Two[string, int64]
		for range 60 {
			ints = append(ints, int64(r.Uint64())>>r.Intn(64))
			bits = append(bits, math.Float64frombits(r.Uint64()))
			b := make([]byte, r.Intn(6))
			for i := range b {
				b[i] = []byte{0, 1, 'a', 255}[r.Intn(4)]
			}
			texts = append(texts, string(b))
			twos = append(twos, two(texts[r.Intn(len(texts))], ints[r.Intn(len(ints))]))
		}
		keepsOrder(t, "Int", whole, cmp.Compare[int64], ints)
		keepsOrder(t, "Float", float, byFloat, bits)
		keepsOrder(t, "Text{5}", text(5), byText, texts)
		keepsOrder(t, "a text and a number", both(text(5), whole), byTwo(byText, cmp.Compare[int64]), twos)
	}
}
