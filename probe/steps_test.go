package probe_test

import (
	"math/bits"
	"slices"
	"testing"

	"larder/probe"
)

func TestStartIsHomeModuloGroups(t *testing.T) {
	for _, groups := range groupNumbers {
		for _, home := range homes {
			want := int(home % uint64(groups))
			if g := probe.Start(home, groups); g != want {
				t.Errorf("P7.1: Start(%d, %d) = %d, want %d", home, groups, g, want)
			}
		}
	}
}

func TestStartOfNoNumberOfGroups(t *testing.T) {
	for _, groups := range noGroups {
		for _, home := range homes {
			if g := probe.Start(home, groups); g != -1 {
				t.Errorf("P7.1: Start(%d, %d) = %d, want -1", home, groups, g)
			}
		}
	}
}

// TestWhichNumbersOfGroups: every number about those that are valid, each judged by how many of its bits are set.
func TestWhichNumbersOfGroups(t *testing.T) {
	for groups := -70000; groups <= 70000; groups++ {
		valid := groups >= 1 && groups <= 8192 && bits.OnesCount(uint(groups)) == 1
		if valid != slices.Contains(groupNumbers, groups) {
			t.Fatalf("the test's own list is wrong at %d", groups)
		}
		want := -1
		if valid {
			want = 0
		}
		if g := probe.Start(0, groups); g != want {
			t.Errorf("P7.1: Start(0, %d) = %d, want %d", groups, g, want)
		}
		if g := probe.At(0, groups, 0); g != want {
			t.Errorf("P7.2: At(0, %d, 0) = %d, want %d", groups, g, want)
		}
		if n := probe.Steps(0, groups, 0); n != want {
			t.Errorf("P7.5: Steps(0, %d, 0) = %d, want %d", groups, n, want)
		}
	}
}

// TestAtGoesOnByOneTwoThree: all steps, by sums of small numbers alone.
func TestAtGoesOnByOneTwoThree(t *testing.T) {
	for _, groups := range groupNumbers {
		for _, home := range homes {
			for n, want := range ordered(home, groups) {
				if g := probe.At(home, groups, n); g != want {
					t.Fatalf("P7.2: At(%d, %d, %d) = %d, want %d", home, groups, n, g, want)
				}
			}
		}
	}
}

// TestAtIsTheExactSum: the sum of home and way is above 2^64 for the highest homes.
func TestAtIsTheExactSum(t *testing.T) {
	for _, groups := range groupNumbers {
		for _, home := range homes {
			for _, n := range []int{0, 1, 2, 3, groups / 2, groups - 3, groups - 2, groups - 1} {
				if n < 0 || n >= groups {
					continue
				}
				if g, want := probe.At(home, groups, n), exact(home, groups, n); g != want {
					t.Errorf("P7.2: At(%d, %d, %d) = %d, want %d", home, groups, n, g, want)
				}
			}
		}
	}
}

func TestAtOfNoStep(t *testing.T) {
	for _, groups := range groupNumbers {
		for _, home := range homes {
			for _, n := range append([]int{groups, groups + 1, 2 * groups, -groups}, far...) {
				if g := probe.At(home, groups, n); g != -1 {
					t.Errorf("P7.2: At(%d, %d, %d) = %d, want -1", home, groups, n, g)
				}
			}
		}
	}
}

func TestAtOfNoNumberOfGroups(t *testing.T) {
	for _, groups := range noGroups {
		for _, home := range homes {
			for _, n := range append([]int{0, 1, 2, groups - 1, groups}, far...) {
				if g := probe.At(home, groups, n); g != -1 {
					t.Errorf("P7.2: At(%d, %d, %d) = %d, want -1", home, groups, n, g)
				}
			}
		}
	}
}

func TestEachGroupIsMetOnce(t *testing.T) {
	for _, groups := range groupNumbers {
		for _, home := range homes {
			times := make(map[int]int, groups)
			for n := range groups {
				times[probe.At(home, groups, n)]++
			}
			for g := range groups {
				if times[g] != 1 {
					t.Errorf("P7.3: with home %d, group %d of %d is met %d times", home, g, groups, times[g])
				}
			}
			if len(times) != groups {
				t.Errorf("P7.3: with home %d, the steps meet %d groups of %d", home, len(times), groups)
			}
		}
	}
}

// TestStepsGoBack: from each step to its group and back, and from each group to its step and back.
func TestStepsGoBack(t *testing.T) {
	for _, groups := range groupNumbers {
		for i, home := range homes {
			if groups > 512 && i%6 != 0 {
				continue
			}
			for k := range groups {
				if n := probe.Steps(home, groups, probe.At(home, groups, k)); n != k {
					t.Fatalf("P7.5: Steps(%d, %d, At of step %d) = %d", home, groups, k, n)
				}
				if g := probe.At(home, groups, probe.Steps(home, groups, k)); g != k {
					t.Fatalf("P7.5: At(%d, %d, Steps of group %d) = %d", home, groups, k, g)
				}
			}
		}
	}
}

// TestStepsAreCountedAlong: the steps by the test's own order, not by At.
func TestStepsAreCountedAlong(t *testing.T) {
	for _, groups := range []int{1, 2, 4, 8, 64, 256} {
		for _, home := range homes {
			for want, g := range ordered(home, groups) {
				if n := probe.Steps(home, groups, g); n != want {
					t.Fatalf("P7.5: Steps(%d, %d, %d) = %d, want %d", home, groups, g, n, want)
				}
			}
		}
	}
}

func TestStepsOfNoGroup(t *testing.T) {
	for _, groups := range groupNumbers {
		for _, home := range homes {
			for _, g := range append([]int{groups, groups + 1, 2 * groups, -groups}, far...) {
				if n := probe.Steps(home, groups, g); n != -1 {
					t.Errorf("P7.5: Steps(%d, %d, %d) = %d, want -1", home, groups, g, n)
				}
			}
		}
	}
}

func TestStepsOfNoNumberOfGroups(t *testing.T) {
	for _, groups := range noGroups {
		for _, home := range homes {
			for _, g := range append([]int{0, 1, 2, groups - 1, groups}, far...) {
				if n := probe.Steps(home, groups, g); n != -1 {
					t.Errorf("P7.5: Steps(%d, %d, %d) = %d, want -1", home, groups, g, n)
				}
			}
		}
	}
}
