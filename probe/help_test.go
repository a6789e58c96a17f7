package probe_test

import (
	"math"
	"math/big"
	"slices"
)

// groupNumbers: every valid number of groups, as the chapter counts them.
var groupNumbers = []int{1, 2, 4, 8, 16, 32, 64, 128, 256, 512, 1024, 2048, 4096, 8192}

// homes: both ends, the middle with its neighbours, homes below, at and above numbers of groups, and two hashes' homes.
var homes = []uint64{0, 1, 2, 5, 7, 8, 4095, 8191, 8192, 9000, 1<<57 - 1, 1<<63 - 1, 1 << 63, 1<<63 + 1, math.MaxUint64 - 8191, math.MaxUint64 - 1, math.MaxUint64, 0x29D97D805E27892F, 0x0053B2FB00BC4F12}

// noGroups: numbers that no table has groups, some of them with a valid number's low bits.
var noGroups = slices.Concat(
	[]int{math.MinInt, math.MinInt + 1, math.MinInt + 8, math.MinInt32, -8193, -8192, -16, -8, -4, -2, -1, 0},
	[]int{3, 5, 6, 7, 9, 12, 24, 63, 65, 96, 4095, 4097, 6144, 8190, 8191, 8193, 12288, 16384, 32768, 65536},
	[]int{1 << 31, 1 << 32, 1<<32 + 1, 1<<32 + 8, 1<<32 + 8192, 1 << 62, 1<<62 + 4, math.MaxInt - 1, math.MaxInt},
)

// far: numbers that are no step and no group, whatever the number of groups.
var far = []int{math.MinInt, math.MinInt + 1, math.MinInt + 8, math.MinInt32, -8192, -8, -2, -1, 8192, 8193, 16384, 1 << 31, 1 << 32, 1<<32 + 1, 1 << 62, math.MaxInt - 1, math.MaxInt}

// ordered: the groups in their order, by the chapter's other words: from home modulo groups on by 1, 2, 3, .. groups, round and round.
func ordered(home uint64, groups int) []int {
	g := int(home % uint64(groups))
	list := make([]int, 0, groups)
	for by := 1; by <= groups; by++ {
		list = append(list, g)
		g = (g + by) % groups
	}
	return list
}

// exact: (home + n(n+1)/2) modulo groups, of numbers without an end.
func exact(home uint64, groups, n int) int {
	sum := big.NewInt(int64(n))
	sum.Mul(sum, big.NewInt(int64(n)+1))
	sum.Rsh(sum, 1)
	sum.Add(sum, new(big.Int).SetUint64(home))
	return int(sum.Mod(sum, big.NewInt(int64(groups))).Int64())
}
