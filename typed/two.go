package typed

import "math"

// Two: a value of either type.
type Two[A, B any] struct {
	First  A
	Second B
}

// Both: the codec of pairs of values.
type Both[A, B any] struct {
	First  Codec[A]
	Second Codec[B]
}

// Width: both widths. Where no int holds the sum it is the greatest one: a sum that went round might be a width that a map takes.
func (c Both[A, B]) Width() int {
	first, second := c.First.Width(), c.Second.Width()
	if first > math.MaxInt-second {
		return math.MaxInt
	}
	return first + second
}

// Align: as a byte.
func (c Both[A, B]) Align() int { return 1 }

// Pack: the first one's bytes, then the second's.
func (c Both[A, B]) Pack(v Two[A, B]) (string, bool) {
	first, laid := c.First.Pack(v.First)
	if !laid {
		return "", false
	}
	second, laid := c.Second.Pack(v.Second)
	if !laid {
		return "", false
	}
	return first + second, true
}

// Unpack: what the two read, each its own bytes.
func (c Both[A, B]) Unpack(s string) (v Two[A, B]) {
	first, second := c.First.Width(), c.Second.Width()
	if first < 0 || first > len(s) || len(s)-first != second {
		return v
	}
	return Two[A, B]{First: c.First.Unpack(s[:first]), Second: c.Second.Unpack(s[first:])}
}
