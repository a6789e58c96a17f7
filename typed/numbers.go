package typed

import "math"

// Int, Uint, Float, Bool: the codecs of int64, uint64, float64, bool.
type (
	Int   struct{}
	Uint  struct{}
	Float struct{}
	Bool  struct{}
)

// wordBytes: how many bytes a number has.
const wordBytes = 8

// highBit: 2^63. Numbers below 0 are laid below it, so that they stand ahead of the others.
const highBit = 1 << 63

// noNumber: the bytes of all NaNs, as a number: behind +Inf's.
const noNumber = math.MaxUint64

// Width: eight bytes.
func (Int) Width() int { return wordBytes }

// Align: as a word.
func (Int) Align() int { return wordBytes }

// Pack: the bytes of v + 2^63.
func (Int) Pack(v int64) (string, bool) { return bytesOf(uint64(v) + highBit), true }

// Unpack: the number of eight bytes, 2^63 less.
func (Int) Unpack(s string) int64 {
	n, right := numberOf(s)
	if !right {
		return 0
	}
	return int64(n - highBit)
}

// Width: eight bytes.
func (Uint) Width() int { return wordBytes }

// Align: as a word.
func (Uint) Align() int { return wordBytes }

// Pack: the bytes of v.
func (Uint) Pack(v uint64) (string, bool) { return bytesOf(v), true }

// Unpack: the number of eight bytes.
func (Uint) Unpack(s string) uint64 {
	n, _ := numberOf(s)
	return n
}

// Width: eight bytes.
func (Float) Width() int { return wordBytes }

// Align: as a word.
func (Float) Align() int { return wordBytes }

// Pack: bits that rise with the values.
func (Float) Pack(v float64) (string, bool) { return bytesOf(risingBits(v)), true }

// risingBits: the bits of a float, turned so that they rise with the values. Values that are the same key have the same: the two zeros, and all that is no number.
func risingBits(v float64) uint64 {
	if v != v {
		return noNumber
	}
	if v == 0 {
		return highBit
	}
	b := math.Float64bits(v)
	if b&highBit != 0 { // of numbers below 0 the bits rise as the numbers fall
		return ^b
	}
	return b + highBit
}

// Unpack: the float whose bits, turned, are the eight bytes. (Those of a NaN need no case of their own: the bits that are left are a NaN's.)
func (Float) Unpack(s string) float64 {
	x, right := numberOf(s)
	if !right {
		return 0
	}
	if x&highBit != 0 {
		return math.Float64frombits(x - highBit)
	}
	return math.Float64frombits(^x)
}

// Width: one byte.
func (Bool) Width() int { return 1 }

// Align: as a byte.
func (Bool) Align() int { return 1 }

// Pack: a byte 0 or 1.
func (Bool) Pack(v bool) (string, bool) {
	if v {
		return "\x01", true
	}
	return "\x00", true
}

// Unpack: is it one byte, and not 0?
func (Bool) Unpack(s string) bool { return len(s) == 1 && s[0] != 0 }

// bytesOf: a number's bytes, the highest first.
func bytesOf(n uint64) string {
	var b [wordBytes]byte
	for i := range b {
		b[i] = byte(n >> (8 * (wordBytes - 1 - i)))
	}
	return string(b[:])
}

// numberOf: the number of eight bytes, the highest first; of any other length 0, and false.
func numberOf(s string) (uint64, bool) {
	if len(s) != wordBytes {
		return 0, false
	}
	var n uint64
	for i := range len(s) {
		n = n<<8 | uint64(s[i])
	}
	return n, true
}
