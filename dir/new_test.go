package dir_test

import (
	"fmt"
	"math"
	"slices"
	"testing"

	"larder/api"
	"larder/dir"
)

// powers: the numbers of entries that a directory may have, and their depths.
var powers = map[int]int{1: 0, 2: 1, 4: 2, 8: 3, 16: 4, 32: 5, 64: 6}

// classes: the bytes of their blocks.
var classes = map[int]int{1: 16, 2: 16, 4: 32, 8: 64, 16: 128, 32: 256, 64: 512}

// TestNewOfEachNumber: from 0 to 65, and 128, and more; the block is for just so many words.
func TestNewOfEachNumber(t *testing.T) {
	numbers := []int{96, 127, 128, 129, 256, 1024, 1 << 16, 1 << 20}
	for n := range 66 {
		numbers = append(numbers, n)
	}
	for _, n := range numbers {
		a := open(t, 4096)
		offs := make([]int, n)
		for i := range offs {
			offs[i] = 3*i - 50
		}
		d, e := dir.New(a, offs...)
		depth, fits := powers[n]
		if !fits {
			if d != (dir.Dir{}) || d.Off() != 0 || d.Depth() != 0 || e != api.ErrEntries || a.Live() != 0 || a.End() != 16 {
				t.Errorf("P10.1: New of %d: %v, error %d, live %d, end %d, want ErrEntries", n, d, e, a.Live(), a.End())
			}
			continue
		}
		answers(t, fmt.Sprint("P10.1: New of ", n), e, api.OK)
		if d.Off() != 16 || d.Depth() != depth || a.Live() != classes[n] || a.End() != 16+classes[n] {
			t.Errorf("P10.1: New of %d: at %d, depth %d, live %d, want 16, %d, %d", n, d.Off(), d.Depth(), a.Live(), depth, classes[n])
		}
		entries(t, "P10.1", d, offs)
	}
}

// TestNewAmongOthers: the bytes of the new block, where it lies, and every other one.
func TestNewAmongOthers(t *testing.T) {
	benches(t, func(depth int, b *bench) {
		entries(t, "P10.1", b.d, b.list)
	})
}

// TestNewAsksNothingOfTheOffs: all the same, below 0, the least and the greatest.
func TestNewAsksNothingOfTheOffs(t *testing.T) {
	for _, x := range append([]int{0, 1, 16, -1}, far...) {
		for depth := range 7 {
			list := slices.Repeat([]int{x}, 1<<depth)
			b := set(t, list...)
			entries(t, "P10.1", b.d, list)
		}
	}
}

// TestNewUnderALimit: at the block's class it just fits; a byte less, and it doesn't.
func TestNewUnderALimit(t *testing.T) {
	for n, class := range classes {
		for _, beside := range []int{0, 48} {
			for _, less := range []int{0, 1, class} {
				a := open(t, beside+class-less)
				if beside > 0 {
					_, e := a.Alloc(beside)
					answers(t, "Alloc", e, api.OK)
				}
				before := look(t, a)
				d, e := dir.New(a, tables()[:n]...)
				if less == 0 {
					answers(t, fmt.Sprintf("P10.1: New of %d in %d bytes", n, a.Limit()), e, api.OK)
					entries(t, "P10.1", d, tables()[:n])
					continue
				}
				if d != (dir.Dir{}) || e != api.ErrMemory {
					t.Errorf("P10.1: New of %d in %d bytes: %v, error %d, want ErrMemory", n, a.Limit(), d, e)
				}
				like(t, "P10.1: New without room", a, before)
			}
		}
	}
}

// TestEntriesAheadOfMemory: a wrong number is told where there is no room either.
func TestEntriesAheadOfMemory(t *testing.T) {
	a := open(t, 0)
	for _, n := range []int{0, 3, 65, 128} {
		_, e := dir.New(a, make([]int, n)...)
		answers(t, fmt.Sprintf("P10.1: New of %d without room", n), e, api.ErrEntries)
	}
}

// TestNewTakesTheLowestFreeBlock: of its own class alone.
func TestNewTakesTheLowestFreeBlock(t *testing.T) {
	a := open(t, 4096)
	offs, e := a.AllocAll(64, 32, 16, 32, 48, 32)
	answers(t, "AllocAll", e, api.OK)
	answers(t, "Free", a.Free(offs[5], offs[3], offs[0], offs[2], offs[4]), api.OK)
	for _, want := range []int{offs[3], offs[5], a.End(), a.End() + 32} {
		if d := made(t, a, 1, 2, 3, 4); d.Off() != want {
			t.Errorf("P10.1: New of 4 lies at %d, want %d", d.Off(), want)
		}
	}
}

// TestTheListIsTheCallers: it is neither changed nor kept, the room behind it neither.
func TestTheListIsTheCallers(t *testing.T) {
	for depth := range 7 {
		n := 1 << depth
		whole := slices.Repeat([]int{-77}, n+70)
		copy(whole, tables()[:n])
		kept := slices.Clone(whole)
		d := made(t, open(t, 4096), whole[:n]...)
		w := d
		if depth < 6 {
			x, e := d.Widen()
			answers(t, "P10.8: Widen", e, api.OK)
			w = x
		}
		answers(t, "P10.7: Place", w.Place(0, 0, 5), api.OK)
		if !slices.Equal(whole, kept) {
			t.Errorf("P10.1: the list of %d is changed", n)
		}
		d = made(t, open(t, 4096), whole[:n]...)
		clear(whole)
		entries(t, "P10.1: the list is written over", d, kept[:n])
	}
	whole := slices.Repeat([]int{-77}, 70)
	for _, n := range []int{0, 3, 65} {
		if _, e := dir.New(open(t, 4096), whole[:n]...); e != api.ErrEntries || !slices.Equal(whole, slices.Repeat([]int{-77}, 70)) {
			t.Errorf("P10.1: New of %d: error %d, or the list is changed", n, e)
		}
	}
}

// TestNaming: At takes any numbers, and looks at nothing.
func TestNaming(t *testing.T) {
	b := set(t, 1, 2, 3, 4)
	inside := []int{0, 1, 8, 15, 16, 17, b.d.Off(), b.d.Off() + 8, b.a.End()}
	for _, off := range append(inside, far...) {
		for _, depth := range append([]int{0, 1, 2, 3, 4, 5, 6}, unfit...) {
			d := dir.At(b.a, off, depth)
			if d.Off() != off || d.Depth() != depth {
				t.Fatalf("P10.2: At(%d, %d): offset %d, depth %d", off, depth, d.Off(), d.Depth())
			}
		}
	}
	b.holds("P10.2: At")
	var none dir.Dir
	if none.Off() != 0 || none.Depth() != 0 {
		t.Errorf("P10.2: the zero Dir: offset %d, depth %d", none.Off(), none.Depth())
	}
}

// TestNamedAlike: what one of two writes, the other one reads, whichever call gave it.
func TestNamedAlike(t *testing.T) {
	benches(t, func(depth int, b *bench) {
		for _, x := range []dir.Dir{dir.At(b.a, b.d.Off(), depth), dir.At(b.a, b.d.Off(), b.d.Depth())} {
			if x != b.d {
				t.Errorf("P10.2: At(%d, %d) is another one than New gave", x.Off(), x.Depth())
			}
			entries(t, "P10.2", x, b.list)
			b.place(len(b.list)-1, depth, 4711+x.Off())
			entries(t, "P10.2", x, b.list)
			answers(t, "P10.7: Place", x.Place(0, depth, -9), api.OK)
			b.list[0] = -9
			b.want.lay(b.d.Off(), b.list...)
			entries(t, "P10.2", b.d, b.list)
		}
		if depth < 6 {
			b.widen()
			entries(t, "P10.2: what Widen gave", dir.At(b.a, b.d.Off(), depth+1), b.list)
		}
		b.holds("P10.2")
	})
}

// TestTheZeroDir: it is what stands beside an error; asked all the same, it has one entry, and that lies nowhere.
func TestTheZeroDir(t *testing.T) {
	a := open(t, 64)
	none, e := dir.New(a)
	answers(t, "P10.1: New of 0", e, api.ErrEntries)
	for _, c := range calls(0, 0) {
		switch c.name {
		case "Run(0, 0)":
			if first, n, e := none.Run(0, 0); first != 0 || n != 1 || e != api.OK {
				t.Errorf("W1: %s of the zero Dir: %d, %d, error %d", c.name, first, n, e)
			}
		case "Free":
			refuses(t, "W1: the zero Dir", a, none, c, api.ErrBlock)
		default:
			refuses(t, "W1: the zero Dir", a, none, c, api.ErrDead)
		}
	}
	if l := gone(none); len(l) != 0 {
		t.Errorf("W1: the zero Dir has the tables %v", l)
	}
	for _, i := range []int{-1, 1, math.MaxInt} {
		if _, e := none.Entry(i); e != api.ErrPlace {
			t.Errorf("W1: Entry(%d) of the zero Dir: error %d", i, e)
		}
	}
}
