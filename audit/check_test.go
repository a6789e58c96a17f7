package audit_test

import (
	"fmt"
	"slices"
	"testing"

	"larder/api"
	"larder/audit"
)

// orders: all orders of the list.
func orders[T any](l []T) [][]T {
	if len(l) == 0 {
		return [][]T{nil}
	}
	var all [][]T
	for i := range l {
		rest := slices.Delete(slices.Clone(l), i, i+1)
		for _, o := range orders(rest) {
			all = append(all, append([]T{l[i]}, o...))
		}
	}
	return all
}

// fourMaps: a bare map, a small one, a wide one with a retired block, and one of another layout: their roots, and each one's blocks.
func fourMaps(t *testing.T) (world, []api.Root, [][]int) {
	w := begin(t, chapter)
	var roots []api.Root
	var blocks [][]int
	have := map[int]bool{}
	keep := func(r api.Root) {
		roots = append(roots, r)
		var own []int
		for off := range w.a.Blocks() {
			if !have[off] {
				have[off] = true
				own = append(own, off)
			}
		}
		blocks = append(blocks, own)
	}
	small := w.mapOf("abc")
	keep(w.root(small.Off()))
	keep(w.root(w.mapOf("").Off()))
	m := w.mapOf("abcdefgh")
	st, _ := m.Stat()
	answers(t, "Pin", m.Pin(st.Root), api.OK)
	w.put(m, "ijklmnop")
	keep(w.root(m.Off()))
	x := w
	x.l = lay(t, gappy)
	keep(x.root(x.mapOf("xyzabcdefgh").Off()))
	return w, roots, blocks
}

// TestAllRoots: P15.2, P15.5: the maps that are there, in every order: nothing. One of them left out: its lowest block. One of them named twice: 7.
func TestAllRoots(t *testing.T) {
	w, roots, blocks := fourMaps(t)
	before := picture(w.a)
	for _, order := range orders(roots) {
		finds(t, fmt.Sprint("P15.2: Check of all, ", order), w.check(order...), fine)
		for i, r := range order {
			left := slices.Delete(slices.Clone(order), i, i+1)
			finds(t, fmt.Sprint("P15.2: Check without ", r), w.check(left...), told(26, slices.Min(blocks[slices.Index(roots, r)])))
			for at := range 5 {
				finds(t, fmt.Sprint("P15.2: Check with ", r, " twice"), w.check(slices.Insert(slices.Clone(order), at, r)...), told(7, r.Off))
				wrong := r
				wrong.Layout.Key = 0
				finds(t, "P15.2: Check with a layout that is none", w.check(slices.Insert(slices.Clone(order), at, wrong)...), told(1, r.Off))
				wrong = r
				wrong.Off += 8
				finds(t, "P15.2: Check with an offset that is none", w.check(slices.Insert(slices.Clone(order), at, wrong)...), told(6, wrong.Off))
			}
		}
	}
	for n := range 1 << len(roots) {
		var some []api.Root
		lowest := 0
		for i, r := range roots {
			if n>>i&1 == 1 {
				some = append(some, r)
				finds(t, "P15.1: Map of each", audit.Map(w.a, w.o, r), fine)
			} else if low := slices.Min(blocks[i]); lowest == 0 || low < lowest {
				lowest = low
			}
		}
		want := fine
		if lowest > 0 {
			want = told(26, lowest)
		}
		finds(t, fmt.Sprint("P15.2: Check of ", some), w.check(some...), want)
	}
	if picture(w.a) != before {
		t.Error("P15.4: a byte has changed")
	}
}

// TestLost: P15.2: a block that no map has: the lowest is told, wherever it lies, and only where no root has a finding. A free block is nobody's.
func TestLost(t *testing.T) {
	w := begin(t, chapter)
	finds(t, "P15.2: no block and no root", w.check(), fine)
	low, _ := w.a.Alloc(100)
	m := w.mapOf("ab")
	high, _ := w.a.Alloc(1)
	higher, _ := w.a.Alloc(1000)
	r := w.root(m.Off())
	finds(t, "P15.2: no root", w.check(), told(26, low))
	finds(t, "P15.2: three that are lost", w.check(r), told(26, low))
	finds(t, "P15.2: a finding comes first", w.check(r, r), told(7, r.Off))
	finds(t, "P15.1: Map does not look for them", audit.Map(w.a, w.o, r), fine)
	w.a.Free(low)
	finds(t, "P15.2: two that are lost", w.check(r), told(26, high))
	w.a.Free(high)
	finds(t, "P15.2: one that is lost", w.check(r), told(26, higher))
	w.a.Free(higher)
	finds(t, "P15.2: none", w.check(r), fine)
	finds(t, "P15.2: no root again", w.check(), told(26, m.Off()))
	answers(t, "Release", m.Release(), api.OK)
	finds(t, "P15.2: nothing any more", w.check(), fine)
	finds(t, "P15.2: a root that is gone", w.check(r), told(6, r.Off))
}

// TestTwoClaims: P15.2: two maps that claim one block: the one that is named later has the finding, at its word.
func TestTwoClaims(t *testing.T) {
	w := begin(t, chapter)
	m, n := w.mapOf("abc").Off(), w.mapOf("abc").Off()
	rm, rn := w.root(m), w.root(n)
	shared := word(n+root, w.load(m+root))
	finds(t, "P15.2: one small block", w.with(func() api.Finding { return w.check(rm, rn) }, shared), told(7, n+root))
	finds(t, "P15.2: the other way round", w.with(func() api.Finding { return w.check(rn, rm) }, shared), told(7, m+root))
	finds(t, "P15.1: each alone", w.with(func() api.Finding { return audit.Map(w.a, w.o, rn) }, shared), fine)
	finds(t, "P15.2: the lost one", w.with(func() api.Finding { return w.check(rn) }, shared), told(26, m))

	w = begin(t, chapter)
	m, n = w.mapOf("abcdefghi").Off(), w.mapOf("abcdefghi").Off()
	rm, rn = w.root(m), w.root(n)
	dm, dn := w.load(m+root), w.load(n+root)
	tm, tn := w.load(dm), w.load(dn)
	for _, c := range []struct {
		what   string
		shared poke
		mn, nm api.Finding
	}{
		{"one directory", word(n+root, dm), told(7, n+root), told(7, m+root)},
		{"one table", word(dn, tm), told(7, dn), told(7, dm)},
		{"one block of groups", word(tn+groups, w.load(tm+groups)), told(7, tn+groups), told(7, tm+groups)},
		{"the other's header as a table", word(dn, m), told(7, dn), told(8, m)},
	} {
		finds(t, "P15.2: "+c.what, w.with(func() api.Finding { return w.check(rm, rn) }, c.shared), c.mn)
		finds(t, "P15.2: the other way round: "+c.what, w.with(func() api.Finding { return w.check(rn, rm) }, c.shared), c.nm)
	}
}

// TestTwoRetired: P15.2: two maps that have one retired block.
func TestTwoRetired(t *testing.T) {
	w := begin(t, chapter)
	m, n := w.mapOf("abc").Off(), w.mapOf("abc").Off()
	s := w.aSmall(0, "a")
	retire(t, 0, s)
	w.lay(word(m+retired, s.Off()))
	finds(t, "P15.2: a retired one", w.check(w.root(m), w.root(n)), fine)
	w.lay(word(n+retired, s.Off()))
	finds(t, "P15.2: a retired one of two", w.check(w.root(m), w.root(n)), told(7, n+retired))
	finds(t, "P15.2: the other way round", w.check(w.root(n), w.root(m)), told(7, m+retired))
}

// TestRootsStay: W3: the roots that are handed in are neither changed nor kept, the room behind them neither.
func TestRootsStay(t *testing.T) {
	w, roots, _ := fourMaps(t)
	spare := append(slices.Clone(roots), api.Root{Off: 77}, api.Root{Off: 78})
	was := slices.Clone(spare)
	finds(t, "P15.2: Check", w.check(spare[:len(roots)]...), fine)
	if !slices.Equal(spare, was) {
		t.Errorf("W3: the roots are %v, want %v", spare, was)
	}
	clear(spare)
	finds(t, "P15.2: Check again", w.check(roots...), fine)
}

// TestOtherPanics: what is no finding is not recovered.
func TestOtherPanics(t *testing.T) {
	w := begin(t, chapter)
	r := w.root(w.mapOf("a").Off())
	for what, call := range map[string]func(){
		"Check": func() { audit.Check(w.a, nil, r) },
		"Map":   func() { audit.Map(w.a, nil, r) },
		"Pairs": func() { audit.Pairs(w.a, nil, r) },
	} {
		func() {
			defer func() {
				if _, is := recover().(error); !is {
					t.Errorf("%s without an oracle: the panic has not come out", what)
				}
			}()
			call()
		}()
	}
}
