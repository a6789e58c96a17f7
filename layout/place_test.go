package layout_test

import (
	"testing"

	"larder/api"
	"larder/layout"
)

// thing: a span of a group's bytes, and what it must lie at a multiple of.
type thing struct {
	name          string
	off, n, align int
}

// things: the control word, the keys, the elems and the births of a group.
func things(l api.Layout) []thing {
	all := []thing{{"the control word", 0, 8, 8}}
	for i := range 8 {
		all = append(all,
			thing{"a key", layout.KeyAt(l, i), l.Key, l.KeyAlign},
			thing{"an elem", layout.ElemAt(l, i), l.Elem, l.ElemAlign},
			thing{"a birth", layout.BirthAt(l, i), 8, 8})
	}
	return all
}

// owners: which thing has each byte of a group, 0 for none; what is wrong with where they lie, if anything is.
func owners(l api.Layout, owner []int) (wrong string) {
	clear(owner)
	for i, x := range things(l) {
		if x.off < 0 || x.off+x.n > l.Group {
			return x.name + " is not inside the group"
		}
		if x.off%x.align != 0 {
			return x.name + " is not aligned"
		}
		for at := x.off; at < x.off+x.n; at++ {
			if owner[at] != 0 {
				return x.name + " shares a byte"
			}
			owner[at] = i + 1
		}
	}
	return ""
}

// gap: how many bytes from there on no thing has.
func gap(owner []int, off int) int {
	n := 0
	for off+n < len(owner) && owner[off+n] == 0 {
		n++
	}
	return n
}

func TestApartAndTight(t *testing.T) {
	room := make([]int, 2120)
	for f := range right(1024) {
		l := parse(t, f[:]...)
		owner := room[:l.Group]
		if wrong := owners(l, owner); wrong != "" {
			t.Fatalf("P3.6: in %v %s", l, wrong)
		}
		for i := range 8 {
			key, elem := layout.KeyAt(l, i)+l.Key, layout.ElemAt(l, i)+l.Elem
			if key > layout.ElemAt(l, i) || elem > layout.BirthAt(l, i) {
				t.Fatalf("P3.2: in %v slot %d is not key, elem, birth", l, i)
			}
			if n := layout.ElemAt(l, i) - key; n >= l.ElemAlign {
				t.Fatalf("P3.7: in %v the gap behind a key has %d bytes", l, n)
			}
			if n := gap(owner, elem); n >= 8 || n != layout.BirthAt(l, i)-elem {
				t.Fatalf("P3.7: in %v the gap behind an elem has %d bytes", l, n)
			}
		}
		if owner[l.Group-1] != 25 {
			t.Fatalf("P3.2: %v does not end behind the last birth", l)
		}
	}
}

// TestCapIsSeenNowhereElse: where things lie does not hang on the cap, so what holds of one cap holds of all.
func TestCapIsSeenNowhereElse(t *testing.T) {
	for f := range right(1024) {
		l := parse(t, f[:]...)
		for _, c := range caps {
			m := parse(t, f[0], f[1], f[2], f[3], c)
			m.Cap = l.Cap
			if m != l {
				t.Fatalf("P3.2: Parse(%v) with the cap %d lays %v, not %v", f, c, m, l)
			}
		}
	}
}

func TestPlacesOfEverySlot(t *testing.T) {
	for f := range right(32) {
		l := parse(t, f[:]...)
		start := 8
		for i := range 8 {
			k, e, b := layout.KeyAt(l, i), layout.ElemAt(l, i), layout.BirthAt(l, i)
			if k != start || e != start+l.ElemOff || b != start+l.BirthOff {
				t.Fatalf("P3.4: slot %d of %v: %d, %d, %d", i, l, k, e, b)
			}
			start += l.Slot
		}
	}
}

func TestNoSuchSlot(t *testing.T) {
	for _, f := range [][]int{{1, 0, 1, 1, 16}, {5, 4, 1, 4, 64}, {128, 128, 8, 8, 1024}} {
		l := parse(t, f...)
		for _, i := range append([]int{-8, -1, 8, 9, 16, 64}, far...) {
			if k, e, b := layout.KeyAt(l, i), layout.ElemAt(l, i), layout.BirthAt(l, i); k != -1 || e != -1 || b != -1 {
				t.Errorf("P3.4: slot %d of %v: %d, %d, %d, want -1 of each", i, l, k, e, b)
			}
		}
		for _, i := range []int{0, 7} {
			if layout.KeyAt(l, i) < 0 || layout.ElemAt(l, i) < 0 || layout.BirthAt(l, i) < 0 {
				t.Errorf("P3.4: %v has no slot %d", l, i)
			}
		}
	}
	for _, i := range append([]int{-1, 8}, far...) { // both wrong
		if layout.KeyAt(api.Layout{}, i) != -1 || layout.ElemAt(api.Layout{}, i) != -1 || layout.BirthAt(api.Layout{}, i) != -1 {
			t.Errorf("P3.4: a layout of zeros has a slot %d", i)
		}
	}
}

func TestGroupsOfEveryTable(t *testing.T) {
	for f := range right(16) {
		l := parse(t, f[:]...)
		want := l.Group
		for _, slots := range tables {
			if n := layout.Groups(l, slots); n != want {
				t.Fatalf("P3.5: Groups(%v, %d) = %d, want %d", l, slots, n, want)
			}
			want += want
		}
	}
}

func TestNoSuchTable(t *testing.T) {
	l := parse(t, 5, 4, 1, 4, 64)
	is := map[int]bool{}
	for _, slots := range tables {
		is[slots] = true
	}
	for slots := -16; slots <= 1<<17; slots++ {
		if n := layout.Groups(l, slots); (n != -1) != is[slots] {
			t.Errorf("P3.5: Groups(%v, %d) = %d", l, slots, n)
		}
	}
	wrong := append([]int{1 << 18, 1 << 31, 1 << 32, 1<<32 + 8, -8, -65536, -131072}, far...)
	for _, slots := range wrong {
		for _, l := range []api.Layout{l, {}, parse(t, 128, 128, 8, 8, 1024)} {
			if n := layout.Groups(l, slots); n != -1 {
				t.Errorf("P3.5: Groups(%v, %d) = %d, want -1", l, slots, n)
			}
		}
	}
}
