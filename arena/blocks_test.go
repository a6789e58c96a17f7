package arena_test

import (
	"fmt"
	"iter"
	"testing"

	"larder/api"
)

// listed: what one range gives, as a text.
func listed(all iter.Seq2[int, int]) string {
	var l [][2]int
	for off, size := range all {
		l = append(l, [2]int{off, size})
	}
	return fmt.Sprint(l)
}

func gives(t *testing.T, what string, all iter.Seq2[int, int], want string) {
	t.Helper()
	if got := listed(all); got != want {
		t.Fatalf("P2.8: %s: %s, want %s", what, got, want)
	}
}

// TestBlocks: P2.8: the live ones alone, in rising order, whatever order they came in.
func TestBlocks(t *testing.T) {
	a := begin(t, 4096)
	all := a.Blocks()
	if all == nil {
		t.Fatal("P2.8: Blocks is nil")
	}
	gives(t, "no blocks", all, "[]")
	takes(t, a, []int{16, 40, 16, 100, 16}, []int{16, 32, 80, 96, 224})
	gives(t, "an answer from before, ranged over anew", all, "[[16 16] [32 48] [80 16] [96 128] [224 16]]")
	answers(t, "P2.5: Free", a.Free(224, 16, 80), api.OK)
	gives(t, "behind a Free", all, "[[32 48] [96 128]]")
	takes(t, a, []int{1, 200, 16}, []int{16, 240, 80})
	gives(t, "blocks taken again", a.Blocks(), "[[16 16] [32 48] [80 16] [96 128] [240 256]]")
}

// TestBlocksMany: P2.8, P2.13: the order rises also where there are many blocks.
func TestBlocksMany(t *testing.T) {
	a := begin(t, api.MaxLimit)
	for i := range 3000 {
		if _, e := a.Alloc(1 + i*37%500); e != api.OK {
			t.Fatalf("P2.3: Alloc: error %d", e)
		}
	}
	for _, p := range a.Parts() {
		if p.Off/16%3 == 0 {
			answers(t, "P2.5: Free", a.Free(p.Off), api.OK)
		}
	}
	parts := a.Parts()
	for off, size := range a.Blocks() {
		for !parts[0].Live {
			parts = parts[1:]
		}
		if off != parts[0].Off || size != parts[0].Size {
			t.Fatalf("P2.8: the block %d, %d where the parts have %v", off, size, parts[0])
		}
		parts = parts[1:]
	}
	for _, p := range parts {
		if p.Live {
			t.Fatalf("P2.8: the block %v is not among them", p)
		}
	}
}

// TestBlocksBody: P2.8: what the body allocates and frees is not seen in this range, but in the next one.
func TestBlocksBody(t *testing.T) {
	a := begin(t, 4096)
	takes(t, a, []int{16, 40, 16, 100}, []int{16, 32, 80, 96})
	answers(t, "P2.5: Free", a.Free(32), api.OK)
	all := a.Blocks()
	var l [][2]int
	for off, size := range all {
		l = append(l, [2]int{off, size})
		switch off {
		case 16:
			answers(t, "P2.5: Free of what comes, and of what has been", a.Free(80, 16), api.OK)
			allocs(t, a, 48, 32, api.OK) // between
		case 80:
			allocs(t, a, 16, 16, api.OK)
			allocs(t, a, 200, 224, api.OK) // behind
		}
	}
	if want := "[[16 16] [80 16] [96 128]]"; fmt.Sprint(l) != want {
		t.Errorf("P2.8: a range whose body changes the blocks gives %v, want %s", l, want)
	}
	gives(t, "the next range", all, "[[16 16] [32 48] [96 128] [224 256]]")
}

// TestBlocksFreeEach: P2.8: a body that frees each block as it comes.
func TestBlocksFreeEach(t *testing.T) {
	a := begin(t, 4096)
	takes(t, a, []int{16, 40, 16, 100}, []int{16, 32, 80, 96})
	n := 0
	for off := range a.Blocks() {
		answers(t, "P2.5: Free in the body", a.Free(off), api.OK)
		n++
	}
	if n != 4 {
		t.Errorf("P2.8: %d blocks, want 4", n)
	}
	stands(t, a, 0, 224)
}

// TestBlocksBegin: P2.8: the blocks are those that are live when the range begins, not when Blocks was called.
func TestBlocksBegin(t *testing.T) {
	a := begin(t, 4096)
	takes(t, a, []int{16, 16}, []int{16, 32})
	all := a.Blocks()
	answers(t, "P2.5: Free", a.Free(16), api.OK)
	allocs(t, a, 64, 48, api.OK)
	gives(t, "a range that begins later", all, "[[32 16] [48 64]]")
}

// TestBlocksEarly: P2.8: a loop that stops early leaves nothing behind; one answer may be ranged over again, and within itself (W9).
func TestBlocksEarly(t *testing.T) {
	a := begin(t, 4096)
	takes(t, a, []int{16, 40, 16}, []int{16, 32, 80})
	mark(t, a)
	before := look(t, a)
	all := a.Blocks()
	for stop := range 3 {
		n := 0
		for range all {
			if n == stop {
				break
			}
			n++
		}
		if n != stop {
			t.Errorf("P2.8: stopped at %d, want %d", n, stop)
		}
	}
	rounds := 0
	for range all {
		gives(t, "a range within another", all, "[[16 16] [32 48] [80 16]]")
		rounds++
	}
	if rounds != 3 {
		t.Errorf("W9: %d rounds, want 3", rounds)
	}
	kept(t, "P2.8, P2.12: ranges over Blocks", a, before)
	allocs(t, a, 16, 96, api.OK)
}

// TestParts: P2.13: the free ones too, without gaps, in a list of its own.
func TestParts(t *testing.T) {
	a := begin(t, 4096)
	if l := a.Parts(); len(l) != 0 {
		t.Errorf("P2.13: without blocks: %v", l)
	}
	takes(t, a, []int{16, 40, 16, 100}, []int{16, 32, 80, 96})
	answers(t, "P2.5: Free", a.Free(32, 96), api.OK)
	want := "[{16 16 true} {32 48 false} {80 16 true} {96 128 false}]"
	l := a.Parts()
	if fmt.Sprint(l) != want {
		t.Errorf("P2.13: %v, want %s", l, want)
	}
	for i := range l[:cap(l)] {
		l[:cap(l)][i] = api.Part{Off: 7, Size: 7, Live: true}
	}
	if got := a.Parts(); fmt.Sprint(got) != want {
		t.Errorf("P2.13, W3: behind a write into the list: %v, want %s", got, want)
	}
	takes(t, a, []int{48, 16}, []int{32, 224})
	want = "[{16 16 true} {32 48 true} {80 16 true} {96 128 false} {224 16 true}]"
	if got := a.Parts(); fmt.Sprint(got) != want {
		t.Errorf("P2.13: %v, want %s", got, want)
	}
}
