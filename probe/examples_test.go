package probe_test

import (
	"slices"
	"testing"

	"larder/probe"
)

const last uint64 = 18446744073709551615

func TestExamplesStart(t *testing.T) {
	for _, c := range []struct {
		home         uint64
		groups, want int
	}{{5, 4, 1}, {last, 8, 7}, {5, 3, -1}} {
		if g := probe.Start(c.home, c.groups); g != c.want {
			t.Errorf("Start(%d, %d) = %d, want %d", c.home, c.groups, g, c.want)
		}
	}
}

func TestExamplesAt(t *testing.T) {
	for _, c := range []struct {
		home            uint64
		groups, n, want int
	}{
		{5, 4, 0, 1}, {5, 4, 1, 2}, {5, 4, 2, 0}, {5, 4, 3, 3}, {5, 4, 4, -1},
		{5, 1, 0, 0}, {5, 1, 1, -1}, {5, 1, -1, -1},
		{last, 8, 1, 0},
		{5, 0, 0, -1}, {5, 3, 0, -1}, {5, 16384, 0, -1},
	} {
		if g := probe.At(c.home, c.groups, c.n); g != c.want {
			t.Errorf("At(%d, %d, %d) = %d, want %d", c.home, c.groups, c.n, g, c.want)
		}
	}
}

func TestExamplesOrder(t *testing.T) {
	if l := slices.Collect(probe.Order(6, 8)); !slices.Equal(l, []int{6, 7, 1, 4, 0, 5, 3, 2}) {
		t.Errorf("Order(6, 8) gives %v", l)
	}
	if l := slices.Collect(probe.Order(6, 12)); len(l) != 0 {
		t.Errorf("Order(6, 12) gives %v", l)
	}
}

func TestExamplesSteps(t *testing.T) {
	for _, c := range []struct {
		home            uint64
		groups, g, want int
	}{{5, 4, 0, 2}, {5, 4, 3, 3}, {5, 4, 4, -1}, {6, 8, 2, 7}} {
		if n := probe.Steps(c.home, c.groups, c.g); n != c.want {
			t.Errorf("Steps(%d, %d, %d) = %d, want %d", c.home, c.groups, c.g, n, c.want)
		}
	}
}

func TestExamplesMostAndSlots(t *testing.T) {
	for slots, want := range map[int]int{8: 7, 16: 14, 1024: 896, 65536: 57344, 0: 0, 4: 0, 12: 0, 131072: 0, -8: 0} {
		if n := probe.Most(slots); n != want {
			t.Errorf("Most(%d) = %d, want %d", slots, n, want)
		}
	}
	for n, want := range map[int]int{-1: 0, 0: 8, 7: 8, 8: 16, 14: 16, 15: 32, 57344: 65536, 57345: 0} {
		if slots := probe.Slots(n); slots != want {
			t.Errorf("Slots(%d) = %d, want %d", n, slots, want)
		}
	}
}
