package order_test

import (
	"fmt"
	"testing"

	"larder/api"
)

// TestCut: P26.6: cuts between any two of many bounds, each in a twin of the tree: nothing, one key, a run, all.
func TestCut(t *testing.T) {
	d := draws(2607)
	benches(t, func(b *bench) {
		l := b.bounds(d)
		for _, from := range l {
			for _, to := range l {
				if len(b.want) > 30 && d.Intn(4) > 0 {
					continue
				}
				c := b.twin()
				what := fmt.Sprintf("P26.6: Cut(%q, %q)", from, to)
				c.cut(from, to)
				c.whole(what)
				c.cut(from, to)
			}
		}
		b.whole("P26.6: the tree whose twins are cut")
	})
}

// TestCutNothing: P26.6: where no key lies between the bounds, or they are crossed, no byte is changed.
func TestCutNothing(t *testing.T) {
	benches(t, func(b *bench) {
		before := look(t, b.a)
		list := [][2]string{{"", ""}, {"\xFF\xFF", ""}, {b.key(1), b.key(1) + "\x00"}, {"\xFF\xFF\xFF", "\xFF\xFF\xFF\xFF"}}
		for _, p := range b.want {
			list = append(list, [2]string{p.Key, p.Key}, [2]string{p.Key + "\x00", p.Key}, [2]string{p.Key + "\x00", p.Key + "\x01"})
		}
		for _, c := range list {
			if n, e := b.x.Cut(c[0], c[1]); n != 0 || e != api.OK {
				t.Fatalf("P26.6: Cut(%q, %q) of %s: %d, error %d", c[0], c[1], told(b.want), n, e)
			}
		}
		like(t, "P26.6: cuts of nothing", b.a, before)
	})
}

// TestCutRuns: P26.6: runs of each length from each place on, so that they end within nodes and at their edges.
func TestCutRuns(t *testing.T) {
	b := set(t, 1<<20, descriptors[2]).fill(0, 40)
	for first := range 40 {
		for n := 1; first+n <= 40; n++ {
			c := b.twin()
			c.cut(b.key(first), b.key(first+n))
			c.whole(fmt.Sprintf("P26.6: a cut of %d keys from %d on", n, first))
		}
	}
}

// TestCutAll: P26.6: of great trees, at once and piece by piece.
func TestCutAll(t *testing.T) {
	for _, pieces := range []int{1, 2, 7} {
		b := set(t, 1<<21, descriptors[2]).fill(0, 3000)
		b.sound("P26.8: a great tree")
		for i := range pieces {
			b.cut(b.key(3000*i/pieces), b.key(3000*(i+1)/pieces))
			b.whole("P26.6: a great cut")
		}
		if len(b.want) > 0 {
			t.Errorf("P26.6: %d keys are left", len(b.want))
		}
	}
}
