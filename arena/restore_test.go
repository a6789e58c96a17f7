package arena_test

import (
	"fmt"
	"math"
	"slices"
	"strings"
	"testing"

	"larder/api"
	"larder/arena"
)

// part, gone: a live block and a free one.
func part(off, size int) api.Part { return api.Part{Off: off, Size: size, Live: true} }
func gone(off, size int) api.Part { return api.Part{Off: off, Size: size} }

// refuses: Restore answers this error, and no arena.
func refuses(t *testing.T, limit int, parts []api.Part, bytes int, want api.Errno) {
	t.Helper()
	was := fmt.Sprint(parts)
	if a, e := arena.Restore(limit, parts, strings.Repeat("b", bytes)); a != nil || e != want {
		t.Errorf("P2.14: Restore(%d, %v, %d bytes) = %v, error %d, want error %d", limit, parts, bytes, a, e, want)
	}
	if fmt.Sprint(parts) != was {
		t.Errorf("W3: Restore has changed its list: %v, was %s", parts, was)
	}
}

// TestRestoreErrors: P2.14: each error by itself.
func TestRestoreErrors(t *testing.T) {
	for _, limit := range []int{-1, math.MinInt, api.MaxLimit + 1, math.MaxInt} {
		refuses(t, limit, nil, 0, api.ErrLimit)
	}
	for _, parts := range [][]api.Part{
		{part(32, 16)}, {part(0, 16)}, {part(-16, 32)}, {gone(17, 16)}, {part(15, 16)}, {part(math.MinInt, 16)}, {part(math.MaxInt, 16)}, // the first place
		{part(16, 16), part(48, 16)}, {part(16, 32), part(32, 16)}, {part(16, 16), part(16, 16)}, {gone(16, 16), gone(31, 16)}, {part(16, 16), part(32, 16), part(49, 16)}, // another place
		{part(32, 16), part(16, 16)}, {part(16, 16), part(math.MinInt+32, 16)}, {part(16, 16), part(0, 16)},
		{part(16, 0)}, {gone(16, 0)}, {part(16, 0), part(16, 16)}, {part(16, -16)}, {part(16, 1)}, {part(16, 15)}, {part(16, 17)}, {part(16, 24)}, {gone(16, 24)}, {part(16, 80)}, {gone(16, 160)}, // no class
		{part(16, math.MaxInt)}, {part(16, math.MinInt)}, {part(16, api.MaxBlock+1)}, {part(16, 2*api.MaxBlock), part(16+2*api.MaxBlock, 16)}, {part(16, 16), gone(32, 20)},
	} {
		bytes := 0
		for _, p := range parts {
			if p.Live && p.Size > 0 && p.Size < 1<<20 {
				bytes += p.Size
			}
		}
		refuses(t, 4096, parts, bytes, api.ErrParts)
	}
	for _, bytes := range []int{0, 1, 47, 49, 63, 64, 65, 4096} {
		refuses(t, 4096, []api.Part{gone(16, 16), part(32, 48)}, bytes, api.ErrBytes)
	}
	refuses(t, 4096, nil, 1, api.ErrBytes)
	refuses(t, 4096, []api.Part{gone(16, 16)}, 16, api.ErrBytes)
	refuses(t, 79, []api.Part{part(16, 48), part(64, 32)}, 80, api.ErrMemory)
	refuses(t, 64, []api.Part{part(16, 48), gone(64, 32), part(96, 32)}, 80, api.ErrMemory)
}

// TestRestoreNoClass: P2.14: of all sizes that fit, just the classes are taken.
func TestRestoreNoClass(t *testing.T) {
	for size := -1; size <= 1100; size++ {
		a, e := arena.Restore(4096, []api.Part{gone(16, size)}, "")
		want := api.ErrParts
		if slices.Contains(classes, size) {
			want = api.OK
		}
		if e != want || (a == nil) != (want != api.OK) {
			t.Errorf("P2.14: a block of %d bytes: error %d, want %d", size, e, want)
		}
	}
}

// TestRestoreClassSum: P2.14: the Sizes of one class, live and free, are at most the limit; those of several may be more.
func TestRestoreClassSum(t *testing.T) {
	three := []api.Part{gone(16, 16), part(32, 16), gone(48, 16)}
	refuses(t, 47, three, 16, api.ErrParts)
	refuses(t, 0, []api.Part{gone(16, 16)}, 0, api.ErrParts)
	refuses(t, 15, []api.Part{gone(16, 16)}, 0, api.ErrParts)
	if a, e := arena.Restore(48, three, strings.Repeat("x", 16)); a == nil || e != api.OK {
		t.Errorf("P2.14: as many of one class as the limit allows: error %d", e)
	}
	four := []api.Part{gone(16, 32), part(48, 16), gone(64, 48), gone(112, 32), gone(144, 16)}
	a, e := arena.Restore(64, four, strings.Repeat("x", 16))
	if a == nil || e != api.OK {
		t.Fatalf("P2.14: three classes, each within the limit: error %d", e)
	}
	stands(t, a, 16, 160)
	refuses(t, 63, four, 16, api.ErrParts)

	many := []api.Part{}
	for i := range api.MaxLimit/16 + 1 {
		many = append(many, gone(16+16*i, 16))
	}
	refuses(t, api.MaxLimit, many, 0, api.ErrParts)
	a, e = arena.Restore(api.MaxLimit, many[1:], "")
	if a != nil || e != api.ErrParts {
		t.Errorf("P2.14: a list without its first part: error %d", e)
	}
	a, e = arena.Restore(api.MaxLimit, many[:api.MaxLimit/16], "")
	if a == nil || e != api.OK {
		t.Fatalf("P2.14: a whole limit of free blocks: error %d", e)
	}
	stands(t, a, 0, 16+api.MaxLimit)
	takes(t, a, []int{1, 1}, []int{16, 32})
}

// TestRestoreFirst: P2.14: where several errors apply, the one that the chapter names first.
func TestRestoreFirst(t *testing.T) {
	bad, above := []api.Part{part(32, 17)}, []api.Part{part(16, 48), part(64, 32)}
	refuses(t, -1, bad, 3, api.ErrLimit)
	refuses(t, api.MaxLimit+1, above, 3, api.ErrLimit)
	refuses(t, 4096, bad, 3, api.ErrParts)
	refuses(t, 47, above, 80, api.ErrParts) // and above the limit
	refuses(t, 47, above, 3, api.ErrParts)
	refuses(t, 64, append(slices.Clone(above), part(90, 16)), 96, api.ErrParts)
	refuses(t, 64, above, 79, api.ErrBytes)
	refuses(t, 64, above, 0, api.ErrBytes)
	refuses(t, 64, above, 80, api.ErrMemory)
}

// TestRestoreNothing: P2.14: Restore(limit, nil, "") is what New(limit) makes.
func TestRestoreNothing(t *testing.T) {
	for _, limit := range []int{0, 16, 100, api.MaxLimit} {
		for _, parts := range [][]api.Part{nil, {}} {
			a, e := arena.Restore(limit, parts, "")
			if a == nil || e != api.OK {
				t.Fatalf("P2.14: Restore(%d, nothing): error %d", limit, e)
			}
			kept(t, "P2.14: Restore of nothing", a, look(t, begin(t, limit)))
		}
	}
}

// TestRestoreBytes: P2.14, P2.12: each live block has its own bytes, also behind free ones; a free block is zero when it is taken.
func TestRestoreBytes(t *testing.T) {
	parts := []api.Part{gone(16, 16), part(32, 48), part(80, 16), gone(96, 32), gone(128, 16), part(144, 32), gone(176, 16), {Off: 999}}
	list := parts[:7]
	a, e := arena.Restore(4096, list, marks(0, 96))
	if e != api.OK {
		t.Fatalf("P2.14: error %d", e)
	}
	for i := range parts { // the list is the caller's again
		parts[i] = part(7, 7)
	}
	stands(t, a, 96, 192)
	all := marks(0, 96)
	reads(t, a, "P2.14: the first live block", 32, all[:48])
	reads(t, a, "P2.14: the second", 80, all[48:64])
	reads(t, a, "P2.14: the third", 144, all[64:])
	answers(t, "P2.10: Fill of a free block", a.Fill(96, 1, 1), api.ErrDead)
	takes(t, a, []int{16, 16, 16, 16, 32}, []int{16, 128, 176, 192, 96})
	for _, off := range []int{16, 128, 176, 96} {
		reads(t, a, "P2.3: a free block that is taken", off, strings.Repeat("\x00", 16))
	}
	reads(t, a, "P2.12: the second block", 80, all[48:64])
}

// TestRestoreApart: P2.14: it shares nothing with the arena that told it, nor with another one restored from the same.
func TestRestoreApart(t *testing.T) {
	a, _ := spans(t)
	b, c := told(t, a), told(t, a)
	before := look(t, a)
	kept(t, "P2.14: an arena made anew", b, before)
	answers(t, "P2.10: Fill", b.Fill(80, 48, 0xEE), api.OK)
	answers(t, "P2.5: Free", b.Free(16), api.OK)
	allocs(t, b, 16, 16, api.OK)
	allocs(t, b, 16, 64, api.OK)
	allocs(t, b, 16, 160, api.OK)
	kept(t, "P2.14: calls on an arena made anew", a, before)
	kept(t, "P2.14: calls on another one made anew", c, before)
}

// TestRestoreGoesOn: P2.14: from then on it answers as the one that was told: the same offsets, the same refusals.
func TestRestoreGoesOn(t *testing.T) {
	a := begin(t, 400)
	takes(t, a, []int{16, 40, 16, 100, 16, 40}, []int{16, 32, 80, 96, 224, 240})
	answers(t, "P2.5: Free", a.Free(224, 32, 16, 240), api.OK)
	mark(t, a)
	b := told(t, a)
	for i, sizes := range [][]int{{16, 16}, {48}, {400}, {16}, {48, 48}, {300}, {32, 1}, {16}} {
		x, xe := a.AllocAll(sizes...)
		y, ye := b.AllocAll(sizes...)
		if fmt.Sprint(x, xe) != fmt.Sprint(y, ye) {
			t.Errorf("P2.14: call %d, AllocAll(%v): %v, error %d; the one that was told: %v, error %d", i, sizes, y, ye, x, xe)
		}
		kept(t, "P2.14: AllocAll on both", b, look(t, a))
	}
	answers(t, "P2.5: Free", a.Free(16, 96), api.OK)
	answers(t, "P2.5: Free", b.Free(16, 96), api.OK)
	kept(t, "P2.14: Free on both", told(t, b), look(t, a))
}
