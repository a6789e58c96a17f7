package ctrl_test

import (
	"math"
	"math/rand"
	"slices"
	"testing"

	"larder/ctrl"
)

// outside: numbers that are no slot.
var outside = []int{math.MinInt, math.MinInt + 1, math.MinInt32, -64, -8, -1, 8, 9, 15, 56, 63, 64, 255, 1 << 32, 1 << 61, math.MaxInt - 1, math.MaxInt}

// noByte: numbers that are no control byte.
var noByte = []int{math.MinInt, math.MinInt + 5, -256, -128, -1, 256, 257, 256 + 5, 1 << 32, math.MaxInt - 1, math.MaxInt}

// noTag: numbers that are no tag, some of them with a tag's low bits.
var noTag = []int{math.MinInt, math.MinInt + 5, -256, -128, -127, -2, -1, 128, 129, 128 + 5, 253, 254, 255, 256, 256 + 5, 1 << 32, math.MaxInt - 1, math.MaxInt}

// joined: the word of these bytes, slot 0's first, by sums alone.
func joined(b [8]int) uint64 {
	var w, power uint64 = 0, 1
	for _, c := range b {
		w += uint64(c) * power
		power *= 256
	}
	return w
}

// parted: the bytes of a word, slot 0's first, by divisions alone.
func parted(w uint64) [8]int {
	var b [8]int
	for i := range b {
		b[i] = int(w % 256)
		w /= 256
	}
	return b
}

// chosen: the slots whose byte is one of those asked for.
func chosen(w uint64, asked func(c int) bool) []int {
	var l []int
	for i, c := range parted(w) {
		if asked(c) {
			l = append(l, i)
		}
	}
	return l
}

// What the chapter's words say of a byte.
func isEmpty(c int) bool  { return c == 128 }
func isVacant(c int) bool { return c == 128 || c == 254 }
func isFull(c int) bool   { return c <= 127 }

// holds: the set has these slots and no other, by all that it tells.
func holds(t *testing.T, b ctrl.Bits, want []int, what string, w uint64) {
	t.Helper()
	if got := slices.Collect(b.All()); !slices.Equal(got, want) {
		t.Fatalf("%s of %#016x: the slots %v, want %v", what, w, got, want)
	}
	if b.Count() != len(want) {
		t.Fatalf("%s of %#016x: Count %d, want %d", what, w, b.Count(), len(want))
	}
	in := 0
	for i := range 8 {
		if b.Has(i) {
			in++
		}
	}
	for _, i := range want {
		if !b.Has(i) || b.First() != i {
			t.Fatalf("%s of %#016x: Has(%d) %v, First %d of those from it on", what, w, i, b.Has(i), b.First())
		}
		b = b.Rest()
	}
	if in != len(want) || b.First() != 8 {
		t.Fatalf("%s of %#016x: Has says %d slots, %d is left behind the last of %v", what, w, in, b.First(), want)
	}
}

// matches: the three sets that ask for no tag, and Clear, are what the chapter's words say of the bytes.
func matches(t *testing.T, w uint64) {
	t.Helper()
	holds(t, ctrl.MatchEmpty(w), chosen(w, isEmpty), "P5.5: MatchEmpty", w)
	holds(t, ctrl.MatchVacant(w), chosen(w, isVacant), "P5.5: MatchVacant", w)
	holds(t, ctrl.MatchFull(w), chosen(w, isFull), "P5.5: MatchFull", w)
	want := parted(w)
	for i, c := range want {
		if c == 254 {
			want[i] = 128
		}
	}
	if got := ctrl.Clear(w); got != joined(want) {
		t.Fatalf("P5.6: Clear(%#016x) = %#016x, want %#016x", w, got, joined(want))
	}
}

// tagged: Match of that tag is what the chapter's words say of the bytes.
func tagged(t *testing.T, w uint64, tag int) {
	t.Helper()
	holds(t, ctrl.Match(w, tag), chosen(w, func(c int) bool { return c == tag }), "P5.4: Match", w)
}

// words: ordinary ones, odd ones, and the same byte in all eight slots; then many whose bytes are drawn from few, so that equal ones and neighbours by number often meet.
func words() []uint64 {
	l := []uint64{0, 1, math.MaxUint64, ctrl.Empty(), 1 << 63, 0x0123456789ABCDEF, 0x0706050403020100, 0x81FDFF80FE050081, 0x80FEFF8080FE8005}
	for c := range 256 {
		l = append(l, joined([8]int{c, c, c, c, c, c, c, c}))
	}
	few := []int{0, 1, 5, 126, 127, 128, 129, 253, 254, 255}
	r := rand.New(rand.NewSource(5))
	for range 5000 {
		var b [8]int
		for i := range b {
			b[i] = few[r.Intn(len(few))]
		}
		l = append(l, joined(b), r.Uint64())
	}
	return l
}

// pairs: for each two neighbours among the slots, every two bytes, the others alike.
func pairs(other int, call func(w uint64, low, high int)) {
	for i := range 7 {
		for low := range 256 {
			for high := range 256 {
				b := [8]int{other, other, other, other, other, other, other, other}
				b[i], b[i+1] = low, high
				call(joined(b), low, high)
			}
		}
	}
}
