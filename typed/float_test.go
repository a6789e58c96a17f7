package typed_test

import (
	"math"
	"math/rand"
	"testing"
)

// nans: values that are no number, of both signs, quiet and signalling, with several fractions.
func nans() []float64 {
	l := []float64{math.NaN()}
	for _, b := range []uint64{0x7ff0000000000001, 0x7ff0000000000002, 0x7ff7ffffffffffff, 0x7ff8000000000000, 0x7ff8000000000001, 0x7ff8000000000005, 0x7fffffffffffffff, 0xfff0000000000001, 0xfff7ffffffffffff, 0xfff8000000000000, 0xfff8000000000001, 0xfffffffffffffffe, 0xffffffffffffffff} {
		l = append(l, math.Float64frombits(b))
	}
	return l
}

var minusZero = math.Copysign(0, -1)

// floats: numbers in rising order; the two zeros stand beside one another.
func floats() []float64 {
	up := []float64{math.SmallestNonzeroFloat64, math.Float64frombits(2), math.Float64frombits(1<<52 - 1), math.Float64frombits(1 << 52), math.Float64frombits(1<<52 + 1), 1e-300, 1e-9, 0.5, math.Nextafter(1, 0), 1, math.Nextafter(1, 2), 1.5, 2, math.Pi, 255, 256, 1e15, 1 << 53, 1e300, math.Nextafter(math.MaxFloat64, 0), math.MaxFloat64, math.Inf(1)}
	var l []float64
	for i := range up {
		l = append(l, -up[len(up)-1-i])
	}
	return append(append(l, minusZero, 0), up...)
}

// TestFloatBytes: P21.2: the bytes that the chapter tells, and those at the edges of the kinds of floats.
func TestFloatBytes(t *testing.T) {
	for _, c := range []struct {
		v float64
		n uint64
	}{
		{math.Inf(-1), 0x000fffffffffffff}, {-math.MaxFloat64, 0x0010000000000000}, {-2, 0x3fffffffffffffff}, {-1.5, 0x4007ffffffffffff}, {-1, 0x400fffffffffffff},
		{math.Float64frombits(0x8010000000000000), 0x7fefffffffffffff}, {math.Float64frombits(0x800fffffffffffff), 0x7ff0000000000000}, {math.Float64frombits(0x8000000000000002), 0x7ffffffffffffffd}, {-math.SmallestNonzeroFloat64, 0x7ffffffffffffffe},
		{minusZero, 0x8000000000000000}, {0, 0x8000000000000000},
		{math.SmallestNonzeroFloat64, 0x8000000000000001}, {math.Float64frombits(0x000fffffffffffff), 0x800fffffffffffff}, {math.Float64frombits(0x0010000000000000), 0x8010000000000000}, {1, 0xbff0000000000000}, {1.5, 0xbff8000000000000}, {2, 0xc000000000000000},
		{math.MaxFloat64, 0xffefffffffffffff}, {math.Inf(1), 0xfff0000000000000},
	} {
		want := laid(t, natural, c.n)
		if s, yes := float.Pack(c.v); s != want || !yes {
			t.Errorf("P21.2: Pack(%v) = %x, %v; want %x", c.v, s, yes, want)
		}
		if v := float.Unpack(want); v != c.v || v == 0 && math.Signbit(v) {
			t.Errorf("P21.2: Unpack(%x) = %v, want %v", want, v, c.v)
		}
	}
	for _, v := range nans() {
		if s, yes := float.Pack(v); s != "\xff\xff\xff\xff\xff\xff\xff\xff" || !yes {
			t.Errorf("P21.2: Pack of the NaN %x = %x, %v", math.Float64bits(v), s, yes)
		}
	}
}

// plainFloat: the bytes' number by the chapter's words, case by case.
func plainFloat(v float64) uint64 {
	b := math.Float64bits(v)
	exponent, fraction := b>>52&0x7ff, b&(1<<52-1)
	switch {
	case exponent == 0x7ff && fraction != 0:
		return math.MaxUint64
	case exponent == 0 && fraction == 0:
		return 1 << 63
	case b < 1<<63:
		return b + 1<<63
	}
	return math.MaxUint64 - b
}

// TestFloatAnyBits: P21.2: of any bits the bytes are those that the words tell.
func TestFloatAnyBits(t *testing.T) {
	r := rand.New(rand.NewSource(4))
	for range 20000 {
		b := r.Uint64()
		switch r.Intn(4) {
		case 0:
			b |= 0x7ff << 52
		case 1:
			b &^= 0x7ff << 52
		case 2:
			b &= 1<<63 | 1<<52 | 1
		}
		v := math.Float64frombits(b)
		if s, yes := float.Pack(v); s != laid(t, natural, plainFloat(v)) || !yes {
			t.Errorf("P21.2: Pack of the bits %x = %x, %v; want %x", b, s, yes, plainFloat(v))
		}
	}
}

// TestFloatAnyBytes: P21.2: any eight bytes are turned round: also those that no value is laid as.
func TestFloatAnyBytes(t *testing.T) {
	l := []uint64{0, 1, 0xfffffffffffff, 0x10000000000000, 1<<63 - 2, 1<<63 - 1, 1 << 63, 1<<63 + 1, 0xfff0000000000000, 0xfff0000000000001, 0xfff7ffffffffffff, 0xfff8000000000000, 0xfff8000000000001, math.MaxUint64 - 1}
	r := rand.New(rand.NewSource(5))
	for range 20000 {
		x := r.Uint64()
		l = append(l, x, x|0xfff<<52, x&^(0xfff<<52), x&(1<<63|3))
	}
	for _, x := range l {
		want := x - 1<<63
		if x < 1<<63 {
			want = math.MaxUint64 - x
		}
		v := float.Unpack(laid(t, natural, x))
		if noNumber := want>>52&0x7ff == 0x7ff && want<<12 != 0; noNumber {
			if v == v {
				t.Errorf("P21.2: Unpack(%x) = %v, want a NaN", x, v)
			}
			continue
		}
		if math.Float64bits(v) != want {
			t.Errorf("P21.2: Unpack(%x) has the bits %x, want %x", x, math.Float64bits(v), want)
		}
	}
	if v := float.Unpack("\xff\xff\xff\xff\xff\xff\xff\xff"); v == v {
		t.Errorf("P21.2: eight bytes 255 are read as %v", v)
	}
	if v := float.Unpack("\x7f\xff\xff\xff\xff\xff\xff\xff"); v != 0 || !math.Signbit(v) {
		t.Errorf("P21.2: 7fffffffffffffff is read as %v, want the negative zero", v)
	}
	if v := float.Unpack("\x80\x00\x00\x00\x00\x00\x00\x00"); v != 0 || math.Signbit(v) {
		t.Errorf("P21.2: 8000000000000000 is read as %v, want zero", v)
	}
}
