package ctrl_test

import (
	"testing"

	"larder/ctrl"
)

func TestEmptyIsEightEmptySlots(t *testing.T) {
	if w := ctrl.Empty(); w != 0x8080808080808080 || parted(w) != [8]int{128, 128, 128, 128, 128, 128, 128, 128} {
		t.Errorf("P5.1: Empty() = %#x", w)
	}
}

func TestGetTellsEachByte(t *testing.T) {
	for _, w := range words() {
		for i, want := range parted(w) {
			if c := ctrl.Get(w, i); c != want {
				t.Fatalf("P5.2: Get(%#016x, %d) = %d, want %d", w, i, c, want)
			}
		}
	}
}

func TestGetOutsideTheSlots(t *testing.T) {
	for _, w := range words() {
		for _, i := range outside {
			if c := ctrl.Get(w, i); c != -1 {
				t.Fatalf("P5.2: Get(%#016x, %d) = %d, want -1", w, i, c)
			}
		}
	}
}

func TestSetLaysOneByte(t *testing.T) {
	for _, w := range words() {
		for i := range 8 {
			for _, c := range []int{0, 1, 5, 126, 127, 128, 129, 253, 254, 255} {
				want := parted(w)
				want[i] = c
				if got := ctrl.Set(w, i, c); got != joined(want) {
					t.Fatalf("P5.3: Set(%#016x, %d, %d) = %#016x, want %#016x", w, i, c, got, joined(want))
				}
			}
		}
	}
}

func TestSetLaysEveryByte(t *testing.T) {
	for _, w := range []uint64{0, 1<<64 - 1, ctrl.Empty(), 0x0123456789ABCDEF} {
		for i := range 8 {
			for c := range 256 {
				got := ctrl.Set(w, i, c)
				if ctrl.Get(got, i) != c || ctrl.Set(got, i, ctrl.Get(w, i)) != w {
					t.Fatalf("P5.3: Set(%#016x, %d, %d) = %#016x", w, i, c, got)
				}
			}
		}
	}
}

func TestSetRefusesSlotsAndBytes(t *testing.T) {
	for _, w := range []uint64{0, 1<<64 - 1, ctrl.Empty(), 0x80FEFF8080FE8005} {
		for _, i := range outside {
			for _, c := range []int{0, 5, 127, 128, 254, 255} {
				keeps(t, w, i, c)
			}
			for _, c := range noByte {
				keeps(t, w, i, c)
			}
		}
		for i := range 8 {
			for _, c := range noByte {
				keeps(t, w, i, c)
			}
		}
	}
}

// keeps: Set with these numbers is the word as it is.
func keeps(t *testing.T, w uint64, i, c int) {
	t.Helper()
	if got := ctrl.Set(w, i, c); got != w {
		t.Errorf("P5.3: Set(%#016x, %d, %d) = %#016x, want the word as it is", w, i, c, got)
	}
}

// TestClearKeepsAllButTheDeleted: a 254 beside every byte there is, on either side of it.
func TestClearKeepsAllButTheDeleted(t *testing.T) {
	for c := range 256 {
		b := [8]int{c, 254, c, c, 254, 254, c, 254}
		d := [8]int{c, 128, c, c, 128, 128, c, 128}
		if c == 254 {
			d = parted(ctrl.Empty())
		}
		if got := ctrl.Clear(joined(b)); got != joined(d) {
			t.Errorf("P5.6: Clear(%#016x) = %#016x, want %#016x", joined(b), got, joined(d))
		}
	}
}

func TestClearTwiceIsClearOnce(t *testing.T) {
	for _, w := range words() {
		once := ctrl.Clear(w)
		if again := ctrl.Clear(once); again != once {
			t.Fatalf("P5.6: Clear(%#016x) = %#016x, and again %#016x", w, once, again)
		}
		holds(t, ctrl.MatchEmpty(once), chosen(w, isVacant), "P5.6: the empty slots behind Clear", w)
	}
}
