package dir_test

import (
	"slices"
	"testing"

	"larder/api"
	"larder/dir"
)

// TestExamples: the chapter's, from the first to the last.
func TestExamples(t *testing.T) {
	a := open(t, 4096)
	d := made(t, a, 100, 200, 100, 300)
	if n, e := a.Size(16); d.Off() != 16 || n != 32 || e != api.OK || d.Depth() != 2 {
		t.Fatalf("P10.1: New: at %d, %d bytes, depth %d", d.Off(), n, d.Depth())
	}
	for _, offs := range [][]int{{1, 2, 3}, nil, make([]int, 128)} {
		d, e := dir.New(a, offs...)
		if d != (dir.Dir{}) || e != api.ErrEntries {
			t.Errorf("P10.1: New of %d: %v, error %d", len(offs), d, e)
		}
	}
	entry := func(d dir.Dir, i, want int, err api.Errno) {
		t.Helper()
		if x, e := d.Entry(i); x != want || e != err {
			t.Errorf("P10.4: Entry(%d) = %d, error %d, want %d, %d", i, x, e, want, err)
		}
	}
	entry(d, 1, 200, api.OK)
	entry(d, 4, 0, api.ErrPlace)
	entry(d, -1, 0, api.ErrPlace)
	pick := func(h uint64, entry, table int) {
		t.Helper()
		if i, x, e := d.Pick(h); i != entry || x != table || e != api.OK {
			t.Errorf("P10.5: Pick(%#x) = %d, %d, error %d, want %d, %d", h, i, x, e, entry, table)
		}
	}
	pick(0xC000000000000000, 3, 300)
	pick(0x7FFFFFFFFFFFFFFF, 1, 200)
	run := func(i, depth, first, n int, err api.Errno) {
		t.Helper()
		if f, k, e := d.Run(i, depth); f != first || k != n || e != err {
			t.Errorf("P10.6: Run(%d, %d) = %d, %d, error %d, want %d, %d, %d", i, depth, f, k, e, first, n, err)
		}
	}
	run(3, 1, 2, 2, api.OK)
	run(3, 2, 3, 1, api.OK)
	run(3, 0, 0, 4, api.OK)
	run(3, 3, 0, 0, api.ErrPlace)
	gives := func(want ...pair) {
		t.Helper()
		if l := gone(d); !slices.Equal(l, want) {
			t.Errorf("P10.9: Tables gives %v, want %v", l, want)
		}
	}
	gives(pair{0, 100}, pair{1, 200}, pair{2, 100}, pair{3, 300})
	answers(t, "P10.7: Place", d.Place(1, 1, 400), api.OK)
	gives(pair{0, 400}, pair{2, 100}, pair{3, 300})

	w, e := d.Widen()
	if e != api.OK || w.Depth() != 3 || w.Off() != 48 {
		t.Fatalf("P10.8: Widen: depth %d, at %d, error %d, want 3, 48", w.Depth(), w.Off(), e)
	}
	if n, e := a.Size(48); n != 64 || e != api.OK {
		t.Errorf("P10.8: its block has %d bytes, error %d", n, e)
	}
	if _, e := a.Size(16); e != api.ErrBlock {
		t.Errorf("P10.8: the block at 16 is not free: error %d", e)
	}
	for i, want := range map[int]int{0: 400, 3: 400, 4: 100, 7: 300} {
		entry(w, i, want, api.OK)
	}
	entry(d, 0, 0, api.ErrDead)
	answers(t, "P10.10: Free", w.Free(), api.OK)
	answers(t, "P10.10: Free again", w.Free(), api.ErrBlock)
	entry(dir.At(a, 48, 7), -1, 0, api.ErrDepth)
	if x, e := dir.At(a, 48, -1).Widen(); x != (dir.Dir{}) || e != api.ErrDepth {
		t.Errorf("P10.3: Widen of depth -1: %v, error %d", x, e)
	}
}
