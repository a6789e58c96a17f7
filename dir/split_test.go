package dir_test

import (
	"math/rand"
	"slices"
	"testing"

	"larder/api"
)

// forest: a directory and the depths of its tables, as the layers above keep them: a table is split in two, or replaced by one of its depth.
type forest struct {
	*bench
	depths map[int]int // by the table's offset
	next   int
}

// fresh: an offset that no table had yet.
func (f *forest) fresh(depth int) int {
	f.next += 16
	f.depths[f.next] = depth
	return f.next
}

// split: the table that the hash picks is split, and the directory widened first, if the table is as deep: was that possible?
func (f *forest) split(h uint64) bool {
	f.t.Helper()
	i, old, e := f.d.Pick(h)
	answers(f.t, "P10.5: Pick", e, api.OK)
	depth := f.depths[old]
	if depth == 6 {
		return false
	}
	if depth == f.d.Depth() {
		f.widen()
		i, _, e = f.d.Pick(h)
		answers(f.t, "P10.5: Pick", e, api.OK)
	}
	first, n, e := f.d.Run(i, depth)
	answers(f.t, "P10.6: Run", e, api.OK)
	f.place(first, depth+1, f.fresh(depth+1))
	f.place(first+n/2, depth+1, f.fresh(depth+1))
	delete(f.depths, old)
	return true
}

// replace: the table that the hash picks has another one in its place.
func (f *forest) replace(h uint64) {
	f.t.Helper()
	i, old, e := f.d.Pick(h)
	answers(f.t, "P10.5: Pick", e, api.OK)
	depth := f.depths[old]
	f.place(i, depth, f.fresh(depth))
	delete(f.depths, old)
}

// once: two hashes pick one table just if they share its top bits.
func (f *forest) once(hashes []uint64) {
	f.t.Helper()
	picked := make([]int, len(hashes))
	for k, h := range hashes {
		_, x, e := f.d.Pick(h)
		answers(f.t, "P10.5: Pick", e, api.OK)
		picked[k] = x
	}
	for k, h := range hashes {
		depth, known := f.depths[picked[k]]
		if !known {
			f.t.Fatalf("P10.11: Pick(%#x) answers %d, which stands nowhere", h, picked[k])
		}
		for j, g := range hashes {
			if same := shareTop(h, g, depth); same != (picked[k] == picked[j]) {
				f.t.Fatalf("P10.11: %#x picks %d of depth %d, %#x picks %d; do they share its top bits: %v", h, picked[k], depth, g, picked[j], same)
			}
		}
	}
}

// shareTop: have two hashes the same highest bits, so many of them? Told bit by bit.
func shareTop(h, g uint64, depth int) bool {
	for bit := range depth {
		if h>>(63-bit)&1 != g>>(63-bit)&1 {
			return false
		}
	}
	return true
}

// whole: Tables gives each table once, by the first entry of its run; the runs fill the directory.
func (f *forest) whole() {
	f.t.Helper()
	next := 0
	var given []int
	for i, x := range f.d.Tables() {
		if i != next {
			f.t.Fatalf("P10.9: the table %d is given at entry %d, want %d", x, i, next)
		}
		next += 1 << (f.d.Depth() - f.depths[x])
		given = append(given, x)
	}
	if next != 1<<f.d.Depth() || len(given) != len(f.depths) {
		f.t.Fatalf("P10.9: the runs end at %d, and there are %d tables, want %d, %d", next, len(given), 1<<f.d.Depth(), len(f.depths))
	}
	slices.Sort(given)
	if len(slices.Compact(given)) != len(f.depths) {
		f.t.Fatalf("P10.9: a table is given twice")
	}
}

// TestEachHashOnce: directories that were widened and placed at by their tables' depths.
func TestEachHashOnce(t *testing.T) {
	r := rand.New(rand.NewSource(103))
	splits, full := 0, 0
	for range 40 {
		f := &forest{bench: set(t, 16), depths: map[int]int{16: 0}, next: 16}
		for range 25 {
			h := r.Uint64() >> r.Intn(8) << r.Intn(2)
			if r.Intn(3) == 0 {
				f.replace(h)
			} else if f.split(h) {
				splits++
			} else {
				full++
			}
			f.whole()
			entries(t, "P10.11", f.d, f.list)
			var hashes []uint64
			for range 60 {
				hashes = append(hashes, r.Uint64()>>r.Intn(8))
			}
			f.once(append(hashes, 0, 1<<57, 1<<58, 1<<63, 1<<63-1, 1<<64-1, h, h^1<<57, h^1<<58))
		}
		f.holds("P10.11")
	}
	if splits < 400 || full < 10 {
		t.Errorf("the run is too tame: %d splits, %d at a table as deep as can be", splits, full)
	}
}

// TestAllSplit: till each table is as deep as can be: sixty-four of them, each at one entry.
func TestAllSplit(t *testing.T) {
	f := &forest{bench: set(t, 16), depths: map[int]int{16: 0}, next: 16}
	for depth := range 6 {
		for top := range 1 << depth {
			if !f.split(uint64(top) << 1 << (63 - depth)) {
				t.Fatalf("P10.11: no split at depth %d", depth)
			}
		}
		f.whole()
		f.once(hashes()[:90*(depth+1)%len(hashes())+10])
	}
	f.once(hashes())
	if len(f.depths) != 64 || f.d.Depth() != 6 {
		t.Errorf("P10.11: %d tables in a directory of depth %d", len(f.depths), f.d.Depth())
	}
}
