package dir_test

import (
	"fmt"
	"math"
	"testing"

	"larder/api"
	"larder/arena"
	"larder/dir"
)

// TestEachEntry: of each depth; a step past both ends, and far past them.
func TestEachEntry(t *testing.T) {
	benches(t, func(depth int, b *bench) {
		entries(t, "P10.4", b.d, b.list)
		for _, i := range append([]int{-1, len(b.list), len(b.list) + 1, 2 * len(b.list)}, far...) {
			refuses(t, "P10.4", b.a, b.d, calls(i, 0)[0], api.ErrPlace)
		}
		b.holds("P10.4")
	})
}

// TestEntriesAreWords: eight bytes, the lowest first, at the block's offset and eight more for each.
func TestEntriesAreWords(t *testing.T) {
	b := set(t, 1, 2, 3, 4)
	answers(t, "Write", b.a.Write(b.d.Off()+8, "\x01\x02\x03\x04\x05\x06\x07\x08", "\xFF\xFF\xFF\xFF\xFF\xFF\xFF\x7F", "\x00\x00\x00\x00\x00\x00\x00\x80"), api.OK)
	entries(t, "P10.4", b.d, []int{1, 0x0807060504030201, math.MaxInt, math.MinInt})
}

// TestPickEachEntry: every top bit set and unset, all bits below the top ones unset, set, and mixed.
func TestPickEachEntry(t *testing.T) {
	benches(t, func(depth int, b *bench) {
		for top := range 64 {
			for _, low := range []uint64{0, 1, 1<<58 - 1, 1 << 57, 0x155555555555555, 0x2AAAAAAAAAAAAAA} {
				h := uint64(top)<<58 + low
				want := top // of the six top bits the highest ones: the others go by halves
				for range 6 - depth {
					want /= 2
				}
				i, x, e := b.d.Pick(h)
				if i != want || x != b.list[want] || e != api.OK {
					t.Fatalf("P10.5: depth %d: Pick(%#x) = %d, %d, error %d, want %d, %d", depth, h, i, x, e, want, b.list[want])
				}
			}
		}
		for bit := range 64 {
			want := 0
			if bit >= 64-depth {
				want = 1 << (bit - 64 + depth)
			}
			if i, x, e := b.d.Pick(1 << bit); i != want || x != b.list[want] || e != api.OK {
				t.Fatalf("P10.5: depth %d: Pick(1<<%d) = %d, %d, error %d, want %d, %d", depth, bit, i, x, e, want, b.list[want])
			}
			want = len(b.list) - 1 - want
			if i, x, e := b.d.Pick(math.MaxUint64 - 1<<bit); i != want || x != b.list[want] || e != api.OK {
				t.Fatalf("P10.5: depth %d: Pick of all but bit %d = %d, %d, error %d, want %d, %d", depth, bit, i, x, e, want, b.list[want])
			}
		}
		b.holds("P10.5")
	})
}

// TestEachRun: every pair of entry and depth, held against the entries that share the bits one by one.
func TestEachRun(t *testing.T) {
	benches(t, func(depth int, b *bench) {
		for i := range b.list {
			for run := range depth + 1 {
				first, n := -1, 0
				for k := range b.list {
					if sameTop(i, k, run, depth) {
						if first < 0 {
							first = k
						}
						n++
					}
				}
				f, k, e := b.d.Run(i, run)
				if f != first || k != n || e != api.OK {
					t.Fatalf("P10.6: depth %d: Run(%d, %d) = %d, %d, error %d, want %d, %d", depth, i, run, f, k, e, first, n)
				}
			}
		}
		for _, i := range append([]int{-1, len(b.list)}, far...) {
			for _, run := range append([]int{0, depth, -1, depth + 1}, far...) {
				refuses(t, "P10.6", b.a, b.d, calls(i, run)[2], api.ErrPlace)
			}
		}
		for i := range b.list {
			for _, run := range append([]int{-1, depth + 1, 7}, far...) {
				refuses(t, "P10.6", b.a, b.d, calls(i, run)[2], api.ErrPlace)
			}
		}
	})
}

// TestRunDoesNotAskTheArena: a dead directory's runs are those of a live one.
func TestRunDoesNotAskTheArena(t *testing.T) {
	a := open(t, 1024)
	for depth := range 7 {
		for _, off := range append([]int{0, 16}, far...) {
			for i := range 1 << depth {
				first, n, e := dir.At(a, off, depth).Run(i, depth)
				if first != i || n != 1 || e != api.OK {
					t.Fatalf("P10.6: Run(%d, %d) of At(%d, %d) = %d, %d, error %d", i, depth, off, depth, first, n, e)
				}
			}
		}
	}
}

// TestADeadDirectory: once its block is free, or where there never was one, every word is refused.
func TestADeadDirectory(t *testing.T) {
	for depth := range 7 {
		a := open(t, 4096)
		d := made(t, a, tables()[:1<<depth]...)
		answers(t, "P10.10: Free", d.Free(), api.OK)
		for _, off := range append([]int{d.Off(), d.Off() + 8, 0, -1, a.End() - 8, a.End()}, far...) {
			dead(t, a, dir.At(a, off, depth))
		}
	}
}

// dead: Entry, Pick and Place answer ErrDead at each entry, Tables gives nothing.
func dead(t *testing.T, a *arena.Arena, d dir.Dir) {
	t.Helper()
	for i := range 1 << d.Depth() {
		for run := range d.Depth() + 1 {
			c := calls(i, run)
			refuses(t, "P10.4: dead", a, d, c[0], api.ErrDead)
			refuses(t, "P10.7: dead", a, d, c[3], api.ErrDead)
		}
		h := uint64(i) << 1 << (63 - d.Depth())
		if i, x, e := d.Pick(h); i != 0 || x != 0 || e != api.ErrDead {
			t.Fatalf("P10.5: dead: Pick(%#x) = %d, %d, error %d, want 0, 0, %d", h, i, x, e, api.ErrDead)
		}
	}
	for _, i := range []int{-1, 1 << d.Depth()} {
		refuses(t, "P10.4: dead, and the entry is none", a, d, calls(i, 0)[0], api.ErrPlace)
		refuses(t, "P10.7: dead, and the entry is none", a, d, calls(i, 0)[3], api.ErrPlace)
	}
	if l := gone(d); len(l) != 0 {
		t.Fatalf("P10.9: dead: Tables gives %v", l)
	}
}

// TestABlockTooShort: the words that lie in it are answered, the others refused.
func TestABlockTooShort(t *testing.T) {
	for depth := range 7 {
		for deep := depth; deep < 7; deep++ {
			a := open(t, 4096)
			list := tables()[:1<<depth]
			made(t, a, list...)
			if depth == 0 {
				list = append(list, 0) // a block has sixteen bytes at the least
			}
			d := dir.At(a, 16, deep)
			for i := range 1 << deep {
				h := uint64(i) << 1 << (63 - deep)
				entry, table, e := d.Pick(h)
				if i < len(list) {
					if entry != i || table != list[i] || e != api.OK {
						t.Fatalf("P10.5: Pick(%#x) = %d, %d, error %d, want %d, %d", h, entry, table, e, i, list[i])
					}
					if x, e := d.Entry(i); x != list[i] || e != api.OK {
						t.Fatalf("P10.4: Entry(%d) = %d, error %d, want %d", i, x, e, list[i])
					}
					continue
				}
				if entry != 0 || table != 0 || e != api.ErrDead {
					t.Fatalf("P10.5: Pick(%#x) past the block: %d, %d, error %d", h, entry, table, e)
				}
				refuses(t, "P10.4: past the block", a, d, calls(i, 0)[0], api.ErrDead)
			}
		}
	}
}

// TestWordsOfSeveralBlocks: each word is asked for on its own: it may lie in another block, ahead or behind; but not across two.
func TestWordsOfSeveralBlocks(t *testing.T) {
	a := open(t, 4096)
	offs, e := a.AllocAll(16, 16, 16, 16)
	answers(t, "AllocAll", e, api.OK)
	for i, off := range offs {
		answers(t, "Write", a.Write(off, text(10*i, 10*i+1)), api.OK)
	}
	answers(t, "Free", a.Free(offs[2]), api.OK) // 16 and 32 are live, 48 isn't, 64 is
	for _, c := range []struct {
		off, i, want int
		e            api.Errno
	}{
		{16, 0, 0, api.OK}, {16, 1, 1, api.OK}, {16, 2, 10, api.OK}, {16, 3, 11, api.OK},
		{16, 4, 0, api.ErrDead}, {16, 5, 0, api.ErrDead}, {16, 6, 30, api.OK}, {16, 7, 31, api.OK},
		{0, 0, 0, api.ErrDead}, {0, 1, 0, api.ErrDead}, {0, 3, 1, api.OK}, {-8, 7, 0, api.ErrDead},
		{-8, 2, 0, api.ErrDead}, {-8, 3, 0, api.OK}, {-8, 4, 1, api.OK}, {40, 0, 11, api.OK}, {40, 1, 0, api.ErrDead},
		{20, 0, 1 << 32, api.OK}, {20, 1, 0, api.ErrDead}, {20, 2, 11 << 32, api.OK}, {12, 0, 0, api.ErrDead},
	} {
		d := dir.At(a, c.off, 3)
		what := fmt.Sprintf("Entry(%d) of At(%d, 3)", c.i, c.off)
		if x, e := d.Entry(c.i); x != c.want || e != c.e {
			t.Errorf("P10.4: %s = %d, error %d, want %d, %d", what, x, e, c.want, c.e)
		}
	}
}
