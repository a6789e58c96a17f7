package order_test

import (
	"fmt"
	"testing"

	"larder/api"
)

// orders: ways through the numbers 0 to n-1: the number at place i.
var orders = []struct {
	name string
	at   func(d drawer, n int) func(i int) int
}{
	{"rising", func(_ drawer, n int) func(int) int { return func(i int) int { return i } }},
	{"falling", func(_ drawer, n int) func(int) int { return func(i int) int { return n - 1 - i } }},
	{"from both ends", func(_ drawer, n int) func(int) int {
		return func(i int) int {
			if i%2 == 0 {
				return i / 2
			}
			return n - 1 - i/2
		}
	}},
	{"from the middle", func(_ drawer, n int) func(int) int {
		return func(i int) int {
			if i%2 == 0 {
				return n/2 + i/2
			}
			return n/2 - 1 - i/2
		}
	}},
	{"drawn", func(d drawer, n int) func(int) int {
		l := d.Perm(n)
		return func(i int) int { return l[i] }
	}},
}

// TestShape: P26.8: puts and deletes in every order, and behind each the bounds and the blocks.
func TestShape(t *testing.T) {
	d := draws(2608)
	for _, desc := range descriptors[2:4] {
		n := 256 // of it every way makes a tree of three levels at the least
		for _, in := range orders {
			for _, out := range orders {
				b := set(t, 1<<21, desc)
				what := fmt.Sprintf("P26.8: puts %s, deletes %s", in.name, out.name)
				put, drop := in.at(d, n), out.at(d, n)
				for i := range n {
					b.put(b.key(put(i)), b.elem(i))
					b.sound(what)
				}
				if s := stat(t, b); s.Height < 3 {
					t.Errorf("%s: %v", what, s)
				}
				b.whole(what)
				for i := range n {
					b.drop(b.key(drop(i)))
					b.sound(what)
				}
				b.whole(what)
			}
		}
	}
}

// TestGreatShape: P26.8: great trees, looked at now and then.
func TestGreatShape(t *testing.T) {
	d := draws(2609)
	const n = 9000
	for _, in := range orders {
		b := set(t, 1<<21, descriptors[2])
		put, drop := in.at(d, n), in.at(d, n)
		for i := range n {
			k, v := b.key(put(i)), b.elem(i)
			if added, e := b.x.Put(k, v); !added || e != 0 {
				t.Fatalf("P26.2: Put number %d: %v, error %d", i, added, e)
			}
		}
		for i := range n {
			b.want = append(b.want, pairAt(b, i))
		}
		for i := range n {
			b.want[put(i)].Elem = b.elem(i)
		}
		if s := stat(t, b); s.Height < 5 {
			t.Errorf("the test draws too little: %v", s)
		}
		b.whole("P26.8: a great tree, keys " + in.name)
		for i := range n - 5 {
			if was, e := b.x.Delete(b.key(drop(i))); !was || e != 0 {
				t.Fatalf("P26.2: Delete number %d: %v, error %d", i, was, e)
			}
		}
		for i := range n - 5 {
			b.want[drop(i)].Key = ""
		}
		b.want = b.want.between("\x00", "\xFF\xFF\xFF")
		b.whole("P26.8: what is left of a great tree, keys " + in.name)
	}
}

// TestToAndFro: P26.8: drawn puts, deletes and cuts that fill a tree and empty it again, several times.
func TestToAndFro(t *testing.T) {
	d := draws(2610)
	for _, desc := range descriptors {
		b := set(t, 1<<21, desc)
		for round := range 8 {
			for range 150 {
				b.put(b.key(d.Intn(256)), b.elem(d.Intn(99)))
				b.sound("P26.8: a put")
				if d.Intn(4) == 0 {
					b.drop(b.key(d.Intn(256)))
					b.sound("P26.8: a delete")
				}
			}
			b.whole("P26.8: filled")
			least := []int{0, 1, 5, 30}[round%4]
			for len(b.want) > least {
				if d.Intn(8) == 0 {
					from := d.Intn(256)
					b.cut(b.key(from), b.key(min(from+d.Intn(9), 255)))
				} else {
					b.drop(b.want[d.Intn(len(b.want))].Key)
				}
				b.sound("P26.8: a delete or a cut")
			}
			b.whole("P26.8: emptied")
		}
	}
}

// pairAt: the pair of that number, with no elem yet.
func pairAt(b *bench, i int) (p api.Pair) {
	p.Key = b.key(i)
	return p
}
