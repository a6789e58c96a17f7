package order_test

import (
	"slices"
	"testing"

	"larder/api"
)

// bounds: texts that a range may begin or end with: few enough to be taken two by two.
func (b *bench) bounds(d drawer) []string {
	l := []string{"", "\x00", "k", "\xFF\xFF", b.key(0), b.key(1), b.key(2), b.key(65535)}
	for range 4 {
		if len(b.want) > 0 {
			l = append(l, pick(d, around(b.want[d.Intn(len(b.want))].Key)...))
		}
	}
	return append(l, pick(d, texts()...))
}

// TestRange: P26.5: bounds of any length, equal and crossed ones too; what is given, rising and falling.
func TestRange(t *testing.T) {
	d := draws(2605)
	benches(t, func(b *bench) {
		before := look(t, b.a)
		l := b.bounds(d)
		for _, from := range l {
			for _, to := range l {
				want := b.want.between(from, to)
				if got := pairs(b.x.Range(from, to), len(want)+1); !slices.Equal(got, want) {
					t.Fatalf("P26.5: Range(%q, %q) of %s: %s, want %s", from, to, told(b.want), told(got), told(want))
				}
				if got := turned(pairs(b.x.Back(from, to), len(want)+1)); !slices.Equal(got, want) {
					t.Fatalf("P26.5: Back(%q, %q) of %s: the other way round %s, want %s", from, to, told(b.want), told(got), told(want))
				}
			}
		}
		like(t, "P26.5: ranges", b.a, before)
	})
}

// change: what a loop's body may do: something to the tree and to the list, near the last key given or anywhere.
func (b *bench) change(d drawer, last string, keys int) {
	b.t.Helper()
	switch d.Intn(8) {
	case 0, 1:
		b.put(b.key(d.Intn(keys)), b.elem(d.Intn(99)))
	case 2:
		b.drop(b.key(d.Intn(keys)))
	case 3:
		b.drop(last)
	case 4:
		b.put(last, b.elem(d.Intn(99)))
	case 5:
		from := d.Intn(keys)
		b.cut(b.key(from), b.key(from+d.Intn(5)))
	case 6:
		b.cut(pick(d, around(last)...), pick(d, around(last)...))
	}
}

// TestRangeChanged: P26.5: each pair is looked for when its turn comes: what the body puts, deletes and cuts is seen ahead of the last key given, and only there.
func TestRangeChanged(t *testing.T) {
	d := draws(2606)
	changed := 0
	for _, desc := range descriptors {
		for range 60 {
			keys := pick(d, 10, 30, 120)
			b := set(t, 1<<21, desc)
			for range keys / 2 {
				b.put(b.key(d.Intn(keys)), b.elem(d.Intn(99)))
			}
			from, to := b.key(d.Intn(keys/3)), b.key(keys-d.Intn(keys/3))
			most := 3 * keys
			next, ok := b.want.above(from, true)
			for k, v := range b.x.Range(from, to) {
				if p := (api.Pair{Key: k, Elem: v}); !ok || p != next || !before(k, to) {
					t.Fatalf("P26.5: Range(%q, %q) gives %q, want %q, %v", from, to, p, next, ok)
				}
				b.change(d, k, keys)
				changed++
				most--
				if most == 0 {
					next = api.Pair{}
					break
				}
				next, ok = b.want.above(k, false)
			}
			if most > 0 && ok && before(next.Key, to) {
				t.Fatalf("P26.5: Range(%q, %q) has ended, the next pair is %q", from, to, next)
			}
			next, ok = b.want.below(to, false)
			for k, v := range b.x.Back(from, to) {
				if p := (api.Pair{Key: k, Elem: v}); !ok || p != next || before(k, from) {
					t.Fatalf("P26.5: Back(%q, %q) gives %q, want %q, %v", from, to, p, next, ok)
				}
				b.change(d, k, keys)
				changed++
				next, ok = b.want.below(k, false)
			}
			if ok && !before(next.Key, from) {
				t.Fatalf("P26.5: Back(%q, %q) has ended, the next pair is %q", from, to, next)
			}
			b.whole("P26.5: behind changed ranges")
		}
	}
	if changed < 5000 {
		t.Errorf("the test draws too little: %d changes", changed)
	}
}

// TestRangeAgain: P26.5, W9: one iterator gone through again and again, and one within another's body, each from the beginning; early ends leave nothing behind.
func TestRangeAgain(t *testing.T) {
	benches(t, func(b *bench) {
		if len(b.want) == 0 || len(b.want) > 64 {
			return
		}
		from, to := b.want[len(b.want)/4].Key, b.want[len(b.want)-1].Key+"\x00"
		want := b.want.between(from, to)
		rising, falling := b.x.Range(from, to), b.x.Back(from, to)
		before := look(t, b.a)
		for n := range len(want) + 2 {
			if got := pairs(rising, n); !slices.Equal(got, want[:min(n, len(want))]) {
				t.Fatalf("P26.5: the first %d of Range: %s, want %s", n, told(got), told(want))
			}
			if got := pairs(falling, n); !slices.Equal(got, turned(want)[:min(n, len(want))]) {
				t.Fatalf("P26.5: the first %d of Back: %s, want those of %s", n, told(got), told(turned(want)))
			}
		}
		i := 0
		for k := range rising {
			if k != want[i].Key {
				t.Fatalf("P26.5: a range with others in its body gives %q, want %q", k, want[i].Key)
			}
			i++
			if got := pairs(rising, 1+len(want)/i); !slices.Equal(got, want[:min(1+len(want)/i, len(want))]) {
				t.Fatalf("P26.5: the range in the body of the same one gives %s", told(got))
			}
			if got := pairs(falling, len(want)+1); !slices.Equal(turned(got), want) {
				t.Fatalf("P26.5: Back in a range's body gives %s", told(got))
			}
		}
		if i != len(want) {
			t.Fatalf("P26.5: a range with others in its body gives %d pairs, want %d", i, len(want))
		}
		like(t, "P26.5: ranges that end early", b.a, before)
		// An iterator sees the tree as it is when it is gone through.
		b.drop(want[0].Key)
		b.put(b.key(1), b.elem(3))
		if got := pairs(rising, 999); !slices.Equal(got, b.want.between(from, to)) {
			t.Fatalf("P26.5: behind a change the range gives %s", told(got))
		}
	})
}

// TestRangeFreed: P26.5, P26.10: a body that frees the tree: there is no more; a dead tree gives nothing, an iterator from before its end too.
func TestRangeFreed(t *testing.T) {
	benches(t, func(b *bench) {
		if len(b.want) == 0 {
			return
		}
		top := b.key(65535) + "\xFF"
		for n := 1; n <= min(len(b.want), 12); n++ {
			x := b.twin().x
			rising, falling := x.Range("", top), x.Back("", top)
			i := 0
			for range pick(draws(int64(n)), rising, falling) {
				i++
				if i == n {
					answers(t, "P26.10: Free in a range's body", x.Free(), api.OK)
				}
			}
			if i != n {
				t.Fatalf("P26.5: a range whose body frees the tree at pair %d of %d gives %d", n, len(b.want), i)
			}
			for _, seq := range []plain{pairs(rising, 9), pairs(falling, 9), pairs(x.Range("", top), 9), pairs(x.Back("", top), 9)} {
				if len(seq) > 0 {
					t.Fatalf("P26.10: a dead tree gives %s", told(seq))
				}
			}
		}
		b.whole("P26.5: the tree whose twins are freed")
	})
}

// TestRangeIsNeverNil: P26.5: of an empty tree, with crossed bounds, of a dead tree.
func TestRangeIsNeverNil(t *testing.T) {
	a := open(t, 4096)
	x := made(t, a, lay(t, descriptors[0]))
	for range 2 {
		if x.Range("", "") == nil || x.Back("", "") == nil || x.Range("b", "a") == nil || x.Back("b", "a") == nil {
			t.Error("P26.5: Range or Back answers nil")
		}
		x.Free()
	}
}
