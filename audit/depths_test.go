package audit_test

import (
	"fmt"
	"slices"
	"testing"

	"larder/api"
	"larder/audit"
	"larder/layout"
	"larder/table"
)

// agrees: Check, Map and Pairs answer what the plain rules say.
func (w world) agrees(what string, roots ...api.Root) bool {
	w.t.Helper()
	ok := true
	if got, want := w.check(roots...), plainCheck(w.a, w.o, roots...); got != want {
		w.t.Errorf("P15.2: %s: Check(%v) = %v, want %v", what, roots, got, want)
		ok = false
	}
	for _, r := range roots {
		want, pairs := plainMap(w.a, w.o, r)
		if got := audit.Map(w.a, w.o, r); got != want {
			w.t.Errorf("P15.1: %s: Map(%v) = %v, want %v", what, r, got, want)
			ok = false
		}
		if got := audit.Pairs(w.a, w.o, r); !slices.Equal(got, pairs) {
			w.t.Errorf("P15.3: %s: Pairs(%v) = %q, want %q", what, r, got, pairs)
			ok = false
		}
	}
	return ok
}

// topOver: overrides for keys of one byte: number i has the highest six bits i, the home 0 and the tag i.
func topOver() []api.Over {
	var over []api.Over
	for i := range 64 {
		over = append(over, api.Over{Key: topKey(i), Hash: uint64(i)<<58 | uint64(i)})
	}
	return over
}

func topKey(i int) string { return string([]byte{byte(160 + i)}) }

// trees: for a depth the tables' depths in the order of the entries: all equal; deep on the left; deep on the right; deep in the middle.
func trees(d int) [][]int {
	even := slices.Repeat([]int{d}, 1<<d)
	if d < 2 {
		return [][]int{even}
	}
	left := []int{d}
	for own := d; own >= 1; own-- {
		left = append(left, own)
	}
	right := slices.Clone(left)
	slices.Reverse(right)
	mid := []int{2}
	for own := 3; own <= d; own++ {
		mid = append(mid, own)
	}
	mid = append(mid, d, 1)
	return [][]int{even, left, right, mid}
}

// TestEveryDepth: P15.1: directories of every depth, whose tables have every depth; each entry, each table's depth and the directory's made another one.
func TestEveryDepth(t *testing.T) {
	for d := range 7 {
		for n, depths := range trees(d) {
			w := beginWith(t, chapter, topOver()...)
			h := w.bare()
			var tables []table.Table
			var keys []int // the number of each one's key: the first that belongs there
			for i, own := range depths {
				first := 0
				if i > 0 {
					first = keys[i-1] + 1<<(6-depths[i-1])
				}
				keys = append(keys, first)
				tables = append(tables, w.aTable(8, own, i, topKey(first)))
			}
			dir := w.hang(h, len(depths), len(depths), tables...)
			what := fmt.Sprintf("depth %d, tree %d", d, n)
			w.asks("P15.1: "+what, h, fine)
			w.agrees(what, w.root(h))
			for i, tb := range tables {
				first := keys[i] >> (6 - d)
				for e := first; e < first+1<<(d-depths[i]); e++ {
					place, code := dir.Off()+8*e, 21
					if e == first {
						code = 6
					}
					w.asks(fmt.Sprintf("P15.1: %s: entry %d is 0", what, e), h, told(code, place), word(place, 0))
				}
				key := groupsOf(t, tb) + layout.KeyAt(w.l, 0)
				for k := range 64 {
					want := told(23, key)
					switch {
					case slices.Contains(keys[:i], k):
						want = told(15, key)
					case k>>(6-depths[i]) == keys[i]>>(6-depths[i]):
						want = fine
					}
					w.asks(fmt.Sprintf("P15.1: %s: table %d has key %d", what, i, k), h, want, w.cell(groupsOf(t, tb), 0, topKey(k), i)...)
				}
				for own := -1; own <= 7; own++ {
					w.agreesWith(fmt.Sprintf("%s: table %d of depth %d", what, i, own), h, word(tb.Off()+deep, own))
				}
			}
			for deep := -2; deep <= 7; deep++ {
				w.agreesWith(fmt.Sprintf("%s: depth %d", what, deep), h, word(h+depth, deep))
			}
		}
	}
}

// agreesWith: with the pokes laid, the answers are those of the plain rules.
func (w world) agreesWith(what string, head int, pokes ...poke) {
	w.t.Helper()
	back := w.lay(pokes...)
	defer w.lay(back...)
	w.agrees(what, w.root(head))
}
