package dir_test

import (
	"math"
	"slices"
	"testing"

	"larder/api"
	"larder/dir"
)

// TestPlaceEachRun: of each depth, at each entry; every other byte of the arena stays.
func TestPlaceEachRun(t *testing.T) {
	offs := []int{77, 0, -1, math.MinInt, math.MaxInt, 0x1122334455667788}
	benches(t, func(depth int, b *bench) {
		for run := depth; run >= 0; run-- {
			for i := range b.list {
				b.place(i, run, offs[(i+run)%len(offs)])
				b.holds("P10.7")
				entries(t, "P10.7", b.d, b.list)
			}
		}
	})
}

// TestPlaceTwice: the same table at one run again changes nothing.
func TestPlaceTwice(t *testing.T) {
	b := set(t, tables()[:16]...)
	b.place(5, 2, 99)
	before := look(t, b.a)
	b.place(6, 2, 99)
	like(t, "P10.7", b.a, before)
}

// TestPlaceRefused: the errors of Run; all is as it was.
func TestPlaceRefused(t *testing.T) {
	benches(t, func(depth int, b *bench) {
		for _, i := range append([]int{-1, len(b.list)}, far...) {
			for _, run := range append([]int{0, depth, -1, depth + 1}, far...) {
				refuses(t, "P10.7", b.a, b.d, calls(i, run)[3], api.ErrPlace)
			}
		}
		for i := range b.list {
			for _, run := range append([]int{-1, depth + 1, 7}, far...) {
				refuses(t, "P10.7", b.a, b.d, calls(i, run)[3], api.ErrPlace)
			}
		}
		b.holds("P10.7")
	})
}

// TestPlacePastTheBlock: where some words of the run are refused, be they its first, its last or some between, no entry has changed; else it is placed.
func TestPlacePastTheBlock(t *testing.T) {
	for _, off := range []int{16, 8, -8, 24, 40, 56, 64, 72, -40, 20, 44, 0, 1, 88} {
		for depth := range 7 {
			for i := range 1 << depth {
				for run := range depth + 1 {
					placeAcross(t, off, depth, i, run)
				}
			}
		}
	}
}

// placeAcross: Place in an arena whose blocks touch, one of them free between the others.
func placeAcross(t *testing.T, off, depth, i, run int) {
	t.Helper()
	a := open(t, 4096)
	offs, e := a.AllocAll(16, 16, 16, 32) // at 16, 32, 48, 64; the end is 96
	answers(t, "AllocAll", e, api.OK)
	for _, at := range offs {
		size, _ := a.Size(at)
		answers(t, "Fill", a.Fill(at, size, 0xA5), api.OK)
	}
	answers(t, "Free", a.Free(48), api.OK)
	want := look(t, a)
	d := dir.At(a, off, depth)
	var places []int
	e = api.OK
	for k := range 1 << depth {
		if sameTop(i, k, run, depth) {
			at := off + 8*k
			places = append(places, at)
			if !inOne(at, 16, 32) && !inOne(at, 32, 48) && !inOne(at, 64, 96) {
				e = api.ErrDead
			}
		}
	}
	if e == api.OK {
		for _, at := range places {
			want.lay(at, 0x0102030405060708)
		}
	}
	if got := d.Place(i, run, 0x0102030405060708); got != e {
		t.Fatalf("P10.7: Place(%d, %d) of At(%d, %d): error %d, want %d", i, run, off, depth, got, e)
	}
	like(t, "P10.7: a directory that reaches past its block", a, want)
}

// inOne: does the word at that place lie between the two?
func inOne(at, from, to int) bool { return at >= from && at+8 <= to }

// TestPlaceKeepsNothing: what was placed is read by a directory of another depth at the same block.
func TestPlaceKeepsNothing(t *testing.T) {
	b := set(t, slices.Repeat([]int{5}, 8)...)
	answers(t, "P10.7: Place", dir.At(b.a, b.d.Off(), 2).Place(1, 1, 6), api.OK)
	entries(t, "P10.7", b.d, []int{6, 6, 5, 5, 5, 5, 5, 5})
}
