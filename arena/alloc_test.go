package arena_test

import (
	"fmt"
	"math"
	"slices"
	"strings"
	"testing"

	"larder/api"
	"larder/arena"
)

// TestNew: P2.1.
func TestNew(t *testing.T) {
	for _, limit := range []int{0, 1, 15, 16, 100, api.MaxLimit - 1, api.MaxLimit} {
		a := begin(t, limit)
		if a.Limit() != limit {
			t.Errorf("P2.1: New(%d): Limit %d", limit, a.Limit())
		}
		stands(t, a, 0, api.First)
		for off, size := range a.Blocks() {
			t.Errorf("P2.1: New(%d) has a block at %d of %d bytes", limit, off, size)
		}
	}
	for _, limit := range []int{-1, -16, math.MinInt, api.MaxLimit + 1, api.MaxMem, math.MaxInt} {
		if a, e := arena.New(limit); a != nil || e != api.ErrLimit {
			t.Errorf("P2.1: New(%d) = %v, error %d", limit, a, e)
		}
	}
}

// TestApart: two arenas share nothing (P2.1).
func TestApart(t *testing.T) {
	a, b := begin(t, 200), begin(t, 200)
	takes(t, a, []int{40, 16}, []int{16, 64})
	stands(t, b, 0, 16)
	takes(t, b, []int{40, 16}, []int{16, 64})
	mark(t, b)
	before := look(t, b)
	answers(t, "Fill", a.Fill(16, 48, 0xEE), api.OK)
	answers(t, "Free", a.Free(64), api.OK)
	kept(t, "P2.1: calls on another arena", b, before)
	answers(t, "Free", b.Free(16), api.OK)
	reads(t, a, "P2.1: Free on another arena", 16, strings.Repeat("\xEE", 48))
}

// TestClass: P2.2, of every number up to a bound, and around every class.
func TestClass(t *testing.T) {
	asked := []int{0, -1, math.MinInt, math.MaxInt, api.MaxBlock + 1, 2 * api.MaxBlock, api.MaxMem, math.MaxInt/4 + 1, 786433}
	for n := range 5000 {
		asked = append(asked, n)
	}
	for _, c := range classes {
		asked = append(asked, c-1, c, c+1)
	}
	for _, n := range asked {
		if got := arena.Class(n); got != classOf(n) {
			t.Errorf("P2.2: Class(%d) = %d, want %d", n, got, classOf(n))
		}
	}
}

// TestEveryClass: P2.3, P2.6, P2.7: a block has as many bytes as the class of what was asked for, and the end goes up by them.
func TestEveryClass(t *testing.T) {
	for _, c := range classes {
		for _, n := range []int{c - 1, c, c + 1} {
			class := classOf(n)
			a := begin(t, api.MaxLimit)
			if class == 0 {
				allocs(t, a, n, 0, api.ErrMemory)
				stands(t, a, 0, 16)
				continue
			}
			allocs(t, a, n, 16, api.OK)
			stands(t, a, class, 16+class)
			if size, e := a.Size(16); size != class || e != api.OK {
				t.Errorf("P2.7: Size of a block for %d bytes: %d, error %d", n, size, e)
			}
			reads(t, a, "P2.3: a new block", 16, strings.Repeat("\x00", class))
		}
	}
}

// TestLimitToTheByte: P2.3: the limit holds for classes, not for what is asked for.
func TestLimitToTheByte(t *testing.T) {
	a := begin(t, 95)
	allocs(t, a, 65, 0, api.ErrMemory)
	stands(t, a, 0, 16)
	a = begin(t, 96)
	allocs(t, a, 65, 16, api.OK)
	allocs(t, a, 1, 0, api.ErrMemory)
	stands(t, a, 96, 112)

	a = begin(t, api.MaxLimit)
	allocs(t, a, api.MaxBlock, 16, api.OK)
	allocs(t, a, api.MaxBlock, 16+api.MaxBlock, api.OK)
	allocs(t, a, 1, 0, api.ErrMemory)
	stands(t, a, api.MaxLimit, 16+api.MaxLimit)
	answers(t, "Free", a.Free(16), api.OK)
	allocs(t, a, 1, 16+api.MaxLimit, api.OK)
	allocs(t, a, api.MaxBlock, 0, api.ErrMemory)
}

// TestAsk: which error comes first (P2.3, P2.4), and that nothing has changed behind it.
func TestAsk(t *testing.T) {
	a := begin(t, 4096)
	takes(t, a, []int{16, 40, 100}, []int{16, 32, 80})
	answers(t, "Free", a.Free(16), api.OK)
	mark(t, a)
	before := look(t, a)
	for _, n := range []int{0, -1, -16, math.MinInt} {
		allocs(t, a, n, 0, api.ErrAsk)
	}
	for _, n := range []int{api.MaxBlock + 1, 3841, 4096, api.MaxMem, math.MaxInt - 1, math.MaxInt} {
		allocs(t, a, n, 0, api.ErrMemory)
	}
	for _, c := range []struct {
		sizes []int
		e     api.Errno
	}{
		{[]int{0}, api.ErrAsk}, {[]int{16, 0}, api.ErrAsk}, {[]int{16, 0, 2000000}, api.ErrAsk}, {[]int{2000000, 0}, api.ErrAsk},
		{[]int{math.MaxInt, math.MinInt}, api.ErrAsk}, {[]int{4096, 16, -1}, api.ErrAsk},
		{[]int{16, 2000000}, api.ErrMemory}, {[]int{2000000, 16}, api.ErrMemory}, {[]int{16, 16, 4096}, api.ErrMemory},
		{[]int{2000, 2000}, api.ErrMemory}, {[]int{3840, 1}, api.ErrMemory}, {[]int{math.MaxInt, math.MaxInt, 16}, api.ErrMemory},
		{slices.Repeat([]int{api.MaxBlock}, 1000), api.ErrMemory}, {slices.Repeat([]int{1}, 246), api.ErrMemory},
	} {
		if l, e := a.AllocAll(c.sizes...); len(l) != 0 || e != c.e {
			t.Errorf("P2.4: AllocAll(%v) = %v, error %d, want error %d", c.sizes, l, e, c.e)
		}
		kept(t, "P2.4: AllocAll that was refused", a, before)
	}
	allocs(t, a, 16, 16, api.OK) // the free block was not taken, even for a while
}

// TestAllocAll: P2.4: one behind the other, each as Alloc takes it, up to the last byte of the limit.
func TestAllocAll(t *testing.T) {
	sizes := []int{1, 33, 16, 40, 1000, 17, 5, 48}
	one, all := begin(t, 4096), begin(t, 4096)
	for _, a := range []*arena.Arena{one, all} {
		takes(t, a, []int{16, 16, 48, 16, 32, 48}, []int{16, 32, 48, 96, 112, 144})
		answers(t, "Free", a.Free(144, 96, 32, 112), api.OK)
	}
	var offs []int
	for _, n := range sizes {
		off, e := one.Alloc(n)
		answers(t, "P2.3: Alloc", e, api.OK)
		offs = append(offs, off)
	}
	takes(t, all, sizes, offs)
	kept(t, "P2.4: AllocAll is one Alloc behind the other", all, look(t, one))
	if want := "[32 144 96 192 240 112 1264 1280]"; fmt.Sprint(offs) != want {
		t.Errorf("P2.4: offsets %v, want %s", offs, want)
	}

	full := begin(t, 160)
	takes(t, full, []int{100, 1, 16}, []int{16, 144, 160})
	stands(t, full, 160, 176)
}

// TestAllocNone: AllocAll without sizes (P2.4).
func TestAllocNone(t *testing.T) {
	for _, limit := range []int{0, 100} {
		a := begin(t, limit)
		if l, e := a.AllocAll(); len(l) != 0 || e != api.OK {
			t.Errorf("P2.4: AllocAll() = %v, error %d", l, e)
		}
		stands(t, a, 0, 16)
	}
}

// TestListsApart: W3: a list that is handed in is neither changed nor kept, its room neither; one that is answered is new.
func TestListsApart(t *testing.T) {
	a := begin(t, 4096)
	room := []int{16, 40, 16, 777, 778}
	first, e := a.AllocAll(room[:3]...)
	answers(t, "P2.4: AllocAll", e, api.OK)
	if want := "[16 40 16 777 778]"; fmt.Sprint(room) != want {
		t.Errorf("W3: the sizes are %v, want %s", room, want)
	}
	spare := first[:cap(first)]
	for i := range spare {
		spare[i] = -1
	}
	if second, e := a.AllocAll(room[:1]...); e != api.OK || fmt.Sprint(second, spare[0]) != "[96] -1" {
		t.Errorf("P2.4: the next list is %v, error %d, and the first begins with %d", second, e, spare[0])
	}
	offs := []int{80, 16, 32, 96, 888}
	answers(t, "P2.5: Free", a.Free(offs[:3]...), api.OK)
	if want := "[80 16 32 96 888]"; fmt.Sprint(offs) != want {
		t.Errorf("W3: the offsets are %v, want %s", offs, want)
	}
	clear(offs)
	takes(t, a, []int{16, 16, 48, 16}, []int{16, 80, 32, 112})
}

// TestLowestOfTheClass: P2.3, W4: whichever order they were freed in; and a free block of another class is never taken.
func TestLowestOfTheClass(t *testing.T) {
	for _, order := range [][]int{{16, 32, 48, 64, 80}, {80, 64, 48, 32, 16}, {48, 80, 16, 64, 32}, {64, 16, 80, 32, 48}} {
		a := begin(t, 208)
		takes(t, a, []int{16, 16, 16, 16, 16, 100}, []int{16, 32, 48, 64, 80, 96})
		for _, off := range order {
			answers(t, "P2.5: Free", a.Free(off), api.OK)
		}
		stands(t, a, 128, 224)
		allocs(t, a, 17, 224, api.OK) // of class 32: not two blocks of 16
		allocs(t, a, 16, 16, api.OK)
		answers(t, "P2.5: Free", a.Free(16), api.OK)
		takes(t, a, []int{1, 2}, []int{16, 32})
		allocs(t, a, 17, 0, api.ErrMemory)
		answers(t, "P2.5: Free", a.Free(96), api.OK)
		takes(t, a, []int{16, 16, 16, 16}, []int{48, 64, 80, 256}) // not a piece of the free 128
		stands(t, a, 128, 272)
	}
}

// TestNeverJoined: P2.3: the greatest need does not join free blocks, nor split one.
func TestNeverJoined(t *testing.T) {
	a := begin(t, 128)
	takes(t, a, []int{64, 64}, []int{16, 80})
	answers(t, "P2.5: Free", a.Free(16, 80), api.OK)
	takes(t, a, []int{128}, []int{144})
	answers(t, "P2.5: Free", a.Free(144), api.OK)
	takes(t, a, []int{32, 48, 16}, []int{272, 304, 352})
	stands(t, a, 96, 368)
}

// TestZeroAgain: P2.3, P2.5: what lay in a freed block is gone when it is taken anew, whole.
func TestZeroAgain(t *testing.T) {
	for _, size := range []int{16, 48, 96, 1024, api.MaxBlock} {
		a := begin(t, api.MaxLimit)
		takes(t, a, []int{16, size, 16}, []int{16, 32, 32 + size})
		mark(t, a)
		answers(t, "P2.5: Free", a.Free(32), api.OK)
		allocs(t, a, size, 32, api.OK)
		reads(t, a, "P2.3: a block that is taken again", 32, strings.Repeat("\x00", size))
		reads(t, a, "P2.12: the block ahead", 16, marks(16, 16))
		reads(t, a, "P2.12: the block behind", 32+size, marks(32+size, 16))
	}
}

// TestFree: P2.5: all or none.
func TestFree(t *testing.T) {
	a := begin(t, 4096)
	takes(t, a, []int{16, 40, 16, 30}, []int{16, 32, 80, 96})
	answers(t, "P2.5: Free", a.Free(80), api.OK)
	mark(t, a)
	before := look(t, a)
	for _, offs := range [][]int{
		{16, 16}, {16, 32, 16}, {96, 32, 16, 96}, {80}, {16, 80}, {80, 16}, {0}, {0, 16}, {17}, {16, 24}, {128}, {16, 128}, {64}, {-16}, {16, -16},
	} {
		answers(t, fmt.Sprintf("P2.5: Free(%v)", offs), a.Free(offs...), api.ErrBlock)
		kept(t, fmt.Sprintf("P2.5: Free(%v)", offs), a, before)
	}
	for _, off := range far {
		answers(t, fmt.Sprintf("P2.5: Free(%d)", off), a.Free(off), api.ErrBlock)
		answers(t, fmt.Sprintf("P2.5: Free(16, %d)", off), a.Free(16, off), api.ErrBlock)
		kept(t, "P2.5: Free of a far offset", a, before)
	}
	answers(t, "P2.5: Free()", a.Free(), api.OK)
	kept(t, "P2.5: Free()", a, before)
	answers(t, "P2.5: Free(96, 16, 32)", a.Free(96, 16, 32), api.OK)
	stands(t, a, 0, 128)
	answers(t, "P2.5: Free(16) again", a.Free(16), api.ErrBlock)
}

// TestSize: P2.7.
func TestSize(t *testing.T) {
	a := begin(t, 4096)
	takes(t, a, []int{16, 40, 16, 100}, []int{16, 32, 80, 96})
	answers(t, "P2.5: Free", a.Free(80), api.OK)
	sizes := map[int]int{16: 16, 32: 48, 96: 128}
	asked := slices.Clone(far)
	for off := range 260 {
		asked = append(asked, off)
	}
	for _, off := range asked {
		want, e := sizes[off], api.OK
		if want == 0 {
			e = api.ErrBlock
		}
		if got, ge := a.Size(off); got != want || ge != e {
			t.Errorf("P2.7: Size(%d) = %d, error %d, want %d, error %d", off, got, ge, want, e)
		}
	}
}

// TestEndOfAll: P2.6: the end is never above its bound, here with a limit's worth of blocks of every class.
func TestEndOfAll(t *testing.T) {
	if testing.Short() {
		t.Skip("64 MiB")
	}
	a := begin(t, api.MaxLimit)
	end := api.First
	for _, c := range slices.Backward(classes) {
		offs, e := a.AllocAll(slices.Repeat([]int{c}, api.MaxLimit/c)...)
		answers(t, "P2.4: AllocAll of a limit's worth", e, api.OK)
		end += api.MaxLimit / c * c
		stands(t, a, api.MaxLimit/c*c, end)
		last := offs[len(offs)-1]
		answers(t, "P2.9: Store", a.Store(last+c-8, 8, math.MaxUint64), api.OK)
		answers(t, "P2.5: Free", a.Free(offs...), api.OK)
	}
	stands(t, a, 0, end)
	if end > 16+32*api.MaxLimit {
		t.Errorf("P2.6: End %d", end)
	}
	takes(t, a, []int{16, 16}, []int{end - api.MaxLimit, end - api.MaxLimit + 16})
}
