package dir_test

import (
	"math"
	"testing"

	"larder/api"
	"larder/dir"
)

// TestDepthAheadOfAllElse: whatever else is wrong: the entry, the run's depth, the block, the arena's room.
func TestDepthAheadOfAllElse(t *testing.T) {
	a := open(t, 1024)
	d := made(t, a, tables()...)
	fill(t, a)
	for _, depth := range unfit {
		for _, off := range []int{d.Off(), d.Off() + 8, 0, -8, a.End(), math.MinInt, math.MaxInt} {
			x := dir.At(a, off, depth)
			for _, i := range []int{0, 63, -1, 64, math.MinInt, math.MaxInt} {
				for _, run := range []int{0, 6, -1, 7, depth, math.MinInt, math.MaxInt} {
					for _, c := range calls(i, run) {
						if c.name != "Free" {
							refuses(t, "P10.3", a, x, c, api.ErrDepth)
						}
					}
				}
			}
			for i, table := range x.Tables() {
				t.Fatalf("P10.3: Tables of At(%d, %d) gives %d, %d", off, depth, i, table)
			}
		}
	}
	entries(t, "P10.3", d, tables())
}

// TestValidDepths: at 0 to 6 all calls are done, or refused by another error.
func TestValidDepths(t *testing.T) {
	for depth := range 7 {
		a := open(t, 4096)
		made(t, a, tables()...)
		d := dir.At(a, 16, depth)
		for _, c := range calls(0, 0) {
			_, _, e := c.do(d)
			if c.name == "Widen" && depth == 6 {
				answers(t, "P10.8: Widen of depth 6", e, api.ErrDepth)
				continue
			}
			want := api.OK
			if c.name == "Free" && depth < 6 {
				want = api.ErrBlock // Widen has freed it
			}
			answers(t, c.name, e, want)
		}
	}
}
