package grow_test

import (
	"math"
	"testing"

	"larder/api"
	"larder/grow"
)

// limits: of every sort, and those at and around twice the slots.
func limits(slots int) []int {
	return []int{
		math.MinInt, math.MinInt + 1, -1 << 32, -5, -1, 0, 1, 7, 8, 15, 16, 17, 1024,
		slots - 1, slots, slots + 1, 2*slots - 1, 2 * slots, 2*slots + 1, 3 * slots, 4 * slots,
		65536, 131071, 131072, 1 << 32, 1 << 62, math.MaxInt - 1, math.MaxInt,
	}
}

func chooses(t *testing.T, used, slots, depth, limit, want int) {
	t.Helper()
	st := api.TableStat{Used: used, Slots: slots, Depth: depth}
	if n := grow.Choose(st, limit); n != want {
		t.Fatalf("P9.4: Choose({Used %d, Slots %d, Depth %d}, %d) = %d, want %d", used, slots, depth, limit, n, want)
	}
}

// TestChooseAtEachBound: every number of slots, its used at and around each bound, every depth, every sort of limit.
func TestChooseAtEachBound(t *testing.T) {
	for slots, m := range most {
		for _, limit := range limits(slots) {
			for depth := 0; depth <= 6; depth++ {
				for _, used := range []int{0, 1, m/2 - 1, m / 2} {
					chooses(t, used, slots, depth, limit, 1)
				}
				want := 3
				if limit >= 2*slots || depth == 6 {
					want = 2
				}
				for _, used := range []int{m/2 + 1, m/2 + 2, m - 1, m} {
					chooses(t, used, slots, depth, limit, want)
				}
			}
		}
	}
}

// TestChooseOfNoTable: a step past each bound, and far past it.
func TestChooseOfNoTable(t *testing.T) {
	far := []int{math.MinInt, math.MinInt + 1, -1 << 62, -1 << 32, -65536, 1 << 32, 1 << 61, 1 << 62, 1<<62 + 1, math.MaxInt}
	for slots, m := range most {
		for _, limit := range limits(slots) {
			for depth := 0; depth <= 6; depth++ {
				for _, used := range append([]int{-1, -2, m + 1, m + 2, 2 * m, slots, 131072}, far...) {
					if used > m || used < 0 {
						chooses(t, used, slots, depth, limit, 0)
					}
				}
			}
			for _, used := range []int{0, m / 2, m} {
				for _, depth := range append([]int{-1, -2, -6, 7, 8, 64}, far...) {
					chooses(t, used, slots, depth, limit, 0)
				}
			}
		}
	}
	for _, slots := range append([]int{-64, -16, -8, -1, 0, 1, 2, 4, 7, 9, 12, 15, 17, 24, 48, 1000, 1023, 1025, 65535, 65537, 98304, 131072, 262144}, far...) {
		for _, limit := range limits(16) {
			for depth := 0; depth <= 6; depth++ {
				for _, used := range []int{0, 1, 3, 7, 8, 14} {
					chooses(t, used, slots, depth, limit, 0)
				}
			}
		}
	}
}

// TestChooseReadsNoMore: whatever the other fields are.
func TestChooseReadsNoMore(t *testing.T) {
	for _, used := range []int{-1, 7, 8, 14, 15} {
		for _, depth := range []int{0, 5, 6, 7} {
			for _, limit := range []int{-5, 31, 32} {
				want := grow.Choose(api.TableStat{Used: used, Slots: 16, Depth: depth}, limit)
				for _, v := range []int{math.MinInt, -1, 0, 1, 7, 8, 16, math.MaxInt} {
					for _, retired := range []bool{false, true} {
						st := api.TableStat{Used: used, Slots: 16, Depth: depth, Left: v, Pins: v, Next: v, Groups: v, Retired: retired}
						if n := grow.Choose(st, limit); n != want {
							t.Fatalf("P9.4: Choose(%+v, %d) = %d, want %d", st, limit, n, want)
						}
					}
				}
			}
		}
	}
}
