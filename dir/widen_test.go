package dir_test

import (
	"fmt"
	"math"
	"testing"

	"larder/api"
	"larder/dir"
)

// TestWidenEachDepth: the new block's bytes and every other one; the old block is free behind it.
func TestWidenEachDepth(t *testing.T) {
	benches(t, func(depth int, b *bench) {
		if depth == 6 {
			refuses(t, "P10.8: as deep as can be", b.a, b.d, calls(0, 0)[4], api.ErrDepth)
			b.holds("P10.8")
			return
		}
		old := b.widen()
		b.holds("P10.8")
		entries(t, "P10.8", b.d, b.list)
		if old.Off() == b.d.Off() {
			t.Errorf("P10.8: the new block lies where the old one did, while that was live")
		}
		if _, e := b.a.Size(old.Off()); e != api.ErrBlock {
			t.Errorf("P10.8: the old block is not free: error %d", e)
		}
		if _, e := old.Entry(0); e != api.ErrDead {
			t.Errorf("P10.8: Entry(0) of the old directory: error %d", e)
		}
		for _, k := range calls(0, 0)[3:5] {
			refuses(t, "P10.8: the old directory", b.a, old, k, api.ErrDead)
		}
	})
}

// TestWidenToTheLast: from depth 0 on till it is refused.
func TestWidenToTheLast(t *testing.T) {
	b := set(t, 41)
	for b.d.Depth() < 6 {
		b.widen()
		b.holds("P10.8")
		b.place(len(b.list)-1, b.d.Depth(), 42+b.d.Depth())
		entries(t, "P10.8", b.d, b.list)
	}
	refuses(t, "P10.8", b.a, b.d, calls(0, 0)[4], api.ErrDepth)
	entries(t, "P10.8", b.d, b.list)
}

// TestWidenPicksTheSame: a hash picks the same table ahead of it and behind it, and twice the entry or one more.
func TestWidenPicksTheSame(t *testing.T) {
	benches(t, func(depth int, b *bench) {
		if depth == 6 {
			return
		}
		hashes, tables, at := hashes(), []int{}, []int{}
		for _, h := range hashes {
			i, x, e := b.d.Pick(h)
			answers(t, "P10.5: Pick", e, api.OK)
			tables, at = append(tables, x), append(at, i)
		}
		b.widen()
		for k, h := range hashes {
			i, x, e := b.d.Pick(h)
			if x != tables[k] || i/2 != at[k] || e != api.OK {
				t.Fatalf("P10.8: behind Widen of depth %d: Pick(%#x) = %d, %d, error %d, it was %d, %d", depth, h, i, x, e, at[k], tables[k])
			}
		}
	})
}

// hashes: every top seven bits, with other bits behind them.
func hashes() []uint64 {
	var l []uint64
	for top := range 128 {
		for _, low := range []uint64{0, 1, 1<<57 - 1} {
			l = append(l, uint64(top)<<57+low)
		}
	}
	return l
}

// TestWidenUnderALimit: both blocks are live at once: where both just fit, and where they just don't.
func TestWidenUnderALimit(t *testing.T) {
	for depth := range 6 {
		both := classes[1<<depth] + classes[2<<depth]
		for _, less := range []int{0, 1, classes[1<<depth]} {
			a := open(t, both-less)
			list := tables()[:1<<depth]
			d := made(t, a, list...)
			if less > 0 {
				refuses(t, fmt.Sprintf("P10.8: in %d bytes", a.Limit()), a, d, calls(0, 0)[4], api.ErrMemory)
				entries(t, "P10.8: refused", d, list)
				continue
			}
			w, e := d.Widen()
			if e != api.OK || a.Live() != classes[2<<depth] || w.Depth() != depth+1 || w.Off() != 16+classes[1<<depth] {
				t.Errorf("P10.8: Widen of depth %d in %d bytes: at %d, error %d, live %d", depth, a.Limit(), w.Off(), e, a.Live())
			}
		}
	}
}

// TestWidenTakesAFreeBlock: the lowest of the new one's class; a depth of 0 and one of 1 have the same class, and the old block is live still.
func TestWidenTakesAFreeBlock(t *testing.T) {
	a := open(t, 4096)
	offs, e := a.AllocAll(32, 64, 16, 16, 64, 16)
	answers(t, "AllocAll", e, api.OK)
	answers(t, "Free", a.Free(offs[2], offs[3], offs[5], offs[4], offs[1]), api.OK)
	d := made(t, a, 7)
	for n, want := range []int{offs[3], a.End(), offs[1]} {
		w, e := d.Widen()
		if w.Off() != want || w.Depth() != n+1 || e != api.OK {
			t.Fatalf("P10.8: Widen: at %d, depth %d, error %d, want the offset %d", w.Off(), w.Depth(), e, want)
		}
		d = w
	}
	x := made(t, a, 8)
	if x.Off() != offs[2] {
		t.Errorf("P10.8: a block behind three widenings lies at %d, want %d, which the first has freed", x.Off(), offs[2])
	}
}

// TestWidenWhereNoBlockBegins: the words are good, but they lie inside of a block.
func TestWidenWhereNoBlockBegins(t *testing.T) {
	for _, room := range []bool{true, false} {
		a := open(t, 1024)
		whole := made(t, a, tables()...) // 16 .. 528
		if !room {
			fill(t, a)
		}
		for depth := range 6 {
			for _, by := range []int{1, 7, 8, 16, 64, 128, 248, 256} {
				refuses(t, "P10.8: inside of a block", a, dir.At(a, 16+by, depth), calls(0, 0)[4], api.ErrBlock)
			}
		}
		entries(t, "P10.8", whole, tables())
	}
}

// TestWidenDead: a word is refused: ahead of asking whether a block begins there, and of the room.
func TestWidenDead(t *testing.T) {
	for _, room := range []bool{true, false} {
		a := open(t, 1024)
		d := made(t, a, tables()...)
		gone := made(t, a, 1, 2, 3, 4, 5, 6, 7, 8)
		last := made(t, a, 9, 9)
		if !room {
			fill(t, a)
		}
		answers(t, "P10.10: Free", gone.Free(), api.OK)
		widen := calls(0, 0)[4]
		for depth := range 6 {
			for _, off := range append([]int{gone.Off(), gone.Off() + 8, 0, 8, 12, -8, 1, last.Off() + 9}, far...) {
				if off == 64 || off == 65 || off == 512 {
					continue // these lie in the first block
				}
				refuses(t, "P10.8: dead", a, dir.At(a, off, depth), widen, api.ErrDead)
			}
			if depth > 0 { // the last word lies behind the first block
				refuses(t, "P10.8: too short", a, dir.At(a, d.Off()+512-8<<depth+8, depth), widen, api.ErrDead)
				refuses(t, "P10.8: too short", a, dir.At(a, d.Off()+512-8, depth), widen, api.ErrDead)
			}
		}
		entries(t, "P10.8", d, tables())
		entries(t, "P10.8", last, []int{9, 9})
	}
}

// TestWidenTooDeep: ErrDepth, where there is no block, and where there's no room.
func TestWidenTooDeep(t *testing.T) {
	a := open(t, 16)
	fill(t, a)
	for _, off := range []int{16, 20, 0, -8, 32, math.MinInt, math.MaxInt} {
		refuses(t, "P10.8: depth 6", a, dir.At(a, off, 6), calls(0, 0)[4], api.ErrDepth)
	}
}

// TestWidenAcrossBlocks: the words lie in two blocks that touch; the one that begins at the offset is freed, the other one stays.
func TestWidenAcrossBlocks(t *testing.T) {
	a := open(t, 4096)
	offs, e := a.AllocAll(16, 16)
	answers(t, "AllocAll", e, api.OK)
	answers(t, "Write", a.Write(offs[0], text(1, 2)), api.OK)
	answers(t, "Write", a.Write(offs[1], text(3, 4)), api.OK)
	want := look(t, a)
	at := want.take(text(1, 1, 2, 2, 3, 3, 4, 4))
	want.drop(16)
	w, e := dir.At(a, 16, 2).Widen()
	if w != dir.At(a, at, 3) || e != api.OK {
		t.Fatalf("P10.8: Widen across two blocks: at %d, depth %d, error %d", w.Off(), w.Depth(), e)
	}
	like(t, "P10.8: across two blocks", a, want)
}

// TestWidenLessThanTheBlock: a directory that has fewer entries than its block has room for.
func TestWidenLessThanTheBlock(t *testing.T) {
	a := open(t, 4096)
	made(t, a, tables()...)
	want := look(t, a)
	at := want.take(text(100, 100, 200, 200))
	want.drop(16)
	w, e := dir.At(a, 16, 1).Widen()
	if w != dir.At(a, at, 2) || e != api.OK {
		t.Fatalf("P10.8: Widen: at %d, depth %d, error %d", w.Off(), w.Depth(), e)
	}
	like(t, "P10.8", a, want)
}
