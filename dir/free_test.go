package dir_test

import (
	"testing"

	"larder/api"
	"larder/dir"
)

// TestFree: its block is free and no other; again it is refused.
func TestFree(t *testing.T) {
	benches(t, func(depth int, b *bench) {
		b.want.drop(b.d.Off())
		answers(t, "P10.10: Free", b.d.Free(), api.OK)
		b.holds("P10.10")
		refuses(t, "P10.10: Free again", b.a, b.d, calls(0, 0)[5], api.ErrBlock)
		dead(t, b.a, b.d)
	})
}

// TestFreeAtAnyDepth: it does not matter, valid or not.
func TestFreeAtAnyDepth(t *testing.T) {
	for _, depth := range append([]int{0, 1, 2, 3, 4, 5, 6}, unfit...) {
		b := set(t, 1, 2, 3, 4)
		x := dir.At(b.a, b.d.Off(), depth)
		b.want.drop(b.d.Off())
		answers(t, "P10.10: Free", x.Free(), api.OK)
		b.holds("P10.10")
		refuses(t, "P10.10: Free again", b.a, x, calls(0, 0)[5], api.ErrBlock)
	}
}

// TestFreeWhereNoBlockBegins: inside of a block, at its end, at none.
func TestFreeWhereNoBlockBegins(t *testing.T) {
	a := open(t, 1024)
	made(t, a, tables()[:32]...) // 16 .. 272
	for _, depth := range []int{0, 6, -1, 7} {
		for _, off := range append([]int{0, 1, 8, 15, 17, 24, 32, 264, 272, 288, -16}, far...) {
			refuses(t, "P10.10", a, dir.At(a, off, depth), calls(0, 0)[5], api.ErrBlock)
		}
	}
}

// TestFreedAndTakenAgain: the next directory of that class lies there, and is another one's no more.
func TestFreedAndTakenAgain(t *testing.T) {
	a := open(t, 4096)
	d := made(t, a, 1, 2, 3, 4)
	made(t, a, 5)
	answers(t, "P10.10: Free", d.Free(), api.OK)
	again := made(t, a, 6, 7, 8, 9)
	if again.Off() != d.Off() {
		t.Fatalf("P10.1: New lies at %d, want %d", again.Off(), d.Off())
	}
	entries(t, "P10.2: the old value is that place", d, []int{6, 7, 8, 9})
}
