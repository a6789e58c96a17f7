package order_test

import (
	"slices"
	"testing"

	"larder/api"
	"larder/audit"
	"larder/oracle"
	"larder/swiss"
)

// TestAsAMap: P26.11, U12: a tree and a map that are given the same puts and deletes answer them alike, and hold the same pairs.
func TestAsAMap(t *testing.T) {
	d := draws(2616)
	for _, desc := range descriptors {
		for _, keys := range []int{12, 60, 256} {
			b := set(t, 1<<21, desc)
			o, e := oracle.New()
			answers(t, "oracle.New", e, api.OK)
			a := open(t, 1<<21)
			m, e := swiss.Make(a, b.l, o, 99, 0)
			answers(t, "swiss.Make", e, api.OK)
			for i := range 900 {
				k, v := b.key(d.Intn(keys)), b.elem(d.Intn(500))
				if d.Intn(20) == 0 {
					k = pick(d, widths(b.l.Key)...)
				} else if l := widths(b.l.Elem); d.Intn(20) == 0 {
					v = pick(d, l...)
				}
				var one, two bool
				var e, f api.Errno
				what := "Put"
				if d.Intn(5) < 2+i/300 {
					what = "Delete"
					one, e = b.x.Delete(k)
					two, f = m.Delete(k)
				} else {
					one, e = b.x.Put(k, v)
					two, f = m.Put(k, v)
				}
				if one != two || e != f {
					t.Fatalf("P26.11: %s(%q, %q): the tree answers %v, %d, the map %v, %d", what, k, v, one, e, two, f)
				}
				if i%90 == 0 {
					want := plain(audit.Pairs(a, o, api.Root{Off: m.Off(), Layout: b.l}))
					if got := pairs(b.x.Range("", "\xFF\xFF\xFF"), 999); !slices.Equal(got, want) {
						t.Fatalf("P26.11: the tree holds %s, the map %s", told(got), told(want))
					}
				}
			}
			n, e := m.Len()
			if s := stat(t, b); s.Used != n || e != api.OK {
				t.Errorf("P26.11: the tree has %d keys, the map %d, error %d", s.Used, n, e)
			}
			for i := range keys {
				one, yes, _ := b.x.Get(b.key(i))
				two, ok, _ := m.Get(b.key(i))
				if one != two || yes != ok {
					t.Errorf("P26.11: Get(%q): the tree answers %q, %v, the map %q, %v", b.key(i), one, yes, two, ok)
				}
			}
		}
	}
}
