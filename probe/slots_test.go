package probe_test

import (
	"math"
	"testing"

	"larder/probe"
)

// sizes: every valid number of slots, and 7/8 of it.
var sizes = []struct{ slots, most int }{
	{8, 7}, {16, 14}, {32, 28}, {64, 56}, {128, 112}, {256, 224}, {512, 448}, {1024, 896}, {2048, 1792}, {4096, 3584}, {8192, 7168}, {16384, 14336}, {32768, 28672}, {65536, 57344},
}

func TestMostIsSevenEighths(t *testing.T) {
	for _, s := range sizes {
		if n := probe.Most(s.slots); n != s.most {
			t.Errorf("P7.6: Most(%d) = %d, want %d", s.slots, n, s.most)
		}
		for _, beside := range []int{s.slots - 1, s.slots + 1, s.slots + s.slots/2, -s.slots} {
			if n := probe.Most(beside); n != 0 {
				t.Errorf("P7.6: Most(%d) = %d, want 0", beside, n)
			}
		}
	}
}

// TestMostOfEveryNumber: all numbers about those that are valid; where none of sizes has it, 0.
func TestMostOfEveryNumber(t *testing.T) {
	want := map[int]int{}
	for _, s := range sizes {
		want[s.slots] = s.most
	}
	for slots := -140000; slots <= 140000; slots++ {
		if n := probe.Most(slots); n != want[slots] {
			t.Errorf("P7.6: Most(%d) = %d, want %d", slots, n, want[slots])
		}
	}
}

func TestMostOfNoTable(t *testing.T) {
	for _, slots := range []int{math.MinInt, math.MinInt + 1, math.MinInt + 8, math.MinInt32, -65536, -8, -1, 0, 1, 2, 3, 4, 5, 6, 7, 131072, 1 << 31, 1 << 32, 1<<32 + 8, 1<<32 + 65536, 1 << 62, math.MaxInt - 1, math.MaxInt} {
		if n := probe.Most(slots); n != 0 {
			t.Errorf("P7.6: Most(%d) = %d, want 0", slots, n)
		}
	}
}

func TestSlotsOfEveryNumber(t *testing.T) {
	at := 0
	for n := 0; n <= 57344; n++ {
		if n > sizes[at].most {
			at++
		}
		if slots := probe.Slots(n); slots != sizes[at].slots {
			t.Fatalf("P7.7: Slots(%d) = %d, want %d", n, slots, sizes[at].slots)
		}
	}
}

// TestSlotsIsTheLeast: the answer holds so many, by Most, and no valid number below it does.
func TestSlotsIsTheLeast(t *testing.T) {
	for n := 0; n <= 57344; n++ {
		slots := probe.Slots(n)
		if probe.Most(slots) < n {
			t.Fatalf("P7.7: Slots(%d) = %d, of which %d may be full", n, slots, probe.Most(slots))
		}
		for _, s := range sizes {
			if s.slots < slots && probe.Most(s.slots) >= n {
				t.Fatalf("P7.7: Slots(%d) = %d, but %d would do", n, slots, s.slots)
			}
		}
	}
}

func TestSlotsOfTooFewOrTooMany(t *testing.T) {
	for _, n := range []int{math.MinInt, math.MinInt + 1, math.MinInt32, -57344, -8, -7, -1, 57345, 57346, 65536, 131072, 1 << 31, 1 << 32, 1<<32 + 7, 1 << 62, math.MaxInt - 1, math.MaxInt} {
		if slots := probe.Slots(n); slots != 0 {
			t.Errorf("P7.7: Slots(%d) = %d, want 0", n, slots)
		}
	}
}
