package order_test

import (
	"fmt"
	"testing"

	"larder/api"
	"larder/arena"
	"larder/order"
)

// TestNewAtEveryLimit: P26.1: the header takes 64 bytes: where they are not to be had New is refused, and nothing has changed.
func TestNewAtEveryLimit(t *testing.T) {
	for _, d := range descriptors {
		l := lay(t, d)
		for limit := range 130 {
			for _, taken := range []int{0, 16, 48, 64} {
				if taken > limit {
					continue
				}
				a := open(t, limit)
				if taken > 0 {
					a.Alloc(taken)
				}
				before := look(t, a)
				x, e := order.New(a, l)
				if limit-taken >= 64 {
					answers(t, fmt.Sprint("P26.1: New with the limit ", limit), e, api.OK)
					continue
				}
				if e != api.ErrMemory || x != (order.Tree{}) || x.Off() != 0 {
					t.Fatalf("P26.1: New with the limit %d and %d live bytes: %v, error %d", limit, taken, x, e)
				}
				like(t, "P26.1: a refused New", a, before)
			}
		}
	}
}

// TestNewIsEmpty: P26.1: one block of 64 bytes, where the arena's Alloc lays it, and no pairs.
func TestNewIsEmpty(t *testing.T) {
	for _, d := range descriptors {
		b := set(t, 1<<20, d)
		low := 0
		for _, part := range look(t, b.a).parts {
			if part.Size == 64 && low == 0 && b.other[part.Off] == "" {
				low = part.Off
			}
		}
		if b.x.Off() != low {
			t.Errorf("P26.1: New: the offset %d, the lowest free block of 64 bytes was at %d", b.x.Off(), low)
		}
		if size, e := b.a.Size(b.x.Off()); size != 64 || e != api.OK {
			t.Errorf("P26.1: the header's block has %d bytes, error %d", size, e)
		}
		if s, e := b.x.Stat(); s != (api.OrderStat{}) || e != api.OK {
			t.Errorf("P26.1: Stat of a new tree: %v, error %d", s, e)
		}
		b.whole("P26.1: New")
		for _, text := range texts() {
			b.asks(text)
		}
		for _, i := range append(far, -1, 0, 1) {
			if p, ok, e := b.x.Nth(i); p != (api.Pair{}) || ok || e != api.OK {
				t.Errorf("P26.4: Nth(%d) of a new tree: %q, %v, error %d", i, p, ok, e)
			}
		}
		b.drop(b.key(5))
		b.cut("", "\xFF\xFF")
		b.whole("P26.1: New, and a delete")
	}
}

// TestNewBehindOthers: P26.1: without a free block the header begins at the arena's end.
func TestNewBehindOthers(t *testing.T) {
	a := open(t, 4096)
	l := lay(t, descriptors[0])
	a.Alloc(100)
	if x := made(t, a, l); x.Off() != 16+128 || a.End() != 16+128+64 || a.Live() != 128+64 {
		t.Errorf("P26.1: New: the offset %d, the end %d, %d live bytes", x.Off(), a.End(), a.Live())
	}
}

// TestAt: P26.1: At is the tree at that offset: what one of two values changes the other sees.
func TestAt(t *testing.T) {
	for _, d := range descriptors {
		b := set(t, 1<<20, d)
		first := b.x
		for i := range 100 {
			b.x = first
			if i%2 == 0 {
				b.x = order.At(b.a, b.l, first.Off())
			}
			if b.x.Off() != first.Off() {
				t.Fatalf("P26.1: Off of At(%d) is %d", first.Off(), b.x.Off())
			}
			b.put(b.key(i*37%100), b.elem(i))
			if i%3 == 0 {
				b.drop(b.key(i * 11 % 100))
			}
		}
		b.whole("P26.1: At")
		b.x = first
		b.whole("P26.1: the tree that New gave")
		answers(t, "P26.10: Free", order.At(b.a, b.l, first.Off()).Free(), api.OK)
		_, e := first.Stat()
		answers(t, "P26.1: Stat of a tree that was freed through At", e, api.ErrDead)
	}
}

// TestAtLooksAtNothing: P26.1: At of any offset, and Off: no byte is changed.
func TestAtLooksAtNothing(t *testing.T) {
	b := set(t, 1<<20, descriptors[0]).fill(0, 50)
	before := look(t, b.a)
	for _, off := range append(far, 0, 1, 16, 17, 80, b.a.End(), b.a.End()+1) {
		if got := order.At(b.a, b.l, off).Off(); got != off {
			t.Errorf("P26.1: Off of At(%d) is %d", off, got)
		}
	}
	like(t, "P26.1: At", b.a, before)
}

// TestZeroTree: P26.1: the Tree beside an error has the offset 0; W1: its calls don't panic.
func TestZeroTree(t *testing.T) {
	var x order.Tree
	if x.Off() != 0 {
		t.Errorf("P26.1: Off of the zero Tree is %d", x.Off())
	}
	a, _ := arena.New(4096)
	for _, c := range calls("a", "b", "c", 0) {
		refuses(t, "W1: the zero Tree", a, x, c, api.ErrDead)
	}
	if l := append(pairs(x.Range("", "z"), 9), pairs(x.Back("", "z"), 9)...); len(l) > 0 {
		t.Errorf("W1: the zero Tree gives %s", told(l))
	}
}
