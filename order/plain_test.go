package order_test

import (
	"fmt"
	"iter"
	"slices"
	"strings"
	"testing"

	"larder/api"
	"larder/arena"
	"larder/order"
)

// The chapter once more, in another way: a list of pairs that is gone through from its beginning, and keys that are held against each other byte by byte.

// before: is a below b? The first byte in which they differ decides; where there is none, the length.
func before(a, b string) bool {
	for i := 0; i < len(a) && i < len(b); i++ {
		if x, y := int(a[i]), int(b[i]); x != y {
			return x < y
		}
	}
	return len(a) < len(b)
}

// plain: pairs, in the order of their keys.
type plain []api.Pair

func (p plain) rank(text string) int {
	n := 0
	for _, x := range p {
		if before(x.Key, text) {
			n++
		}
	}
	return n
}

func (p plain) nth(i int) (api.Pair, bool) {
	for n, x := range p {
		if n == i {
			return x, true
		}
	}
	return api.Pair{}, false
}

func (p plain) get(key string) (string, bool) {
	for _, x := range p {
		if x.Key == key {
			return x.Elem, true
		}
	}
	return "", false
}

func (p plain) has(key string) bool {
	_, ok := p.get(key)
	return ok
}

func (p *plain) put(key, elem string) bool {
	for i, x := range *p {
		if x.Key == key {
			(*p)[i].Elem = elem
			return false
		}
	}
	*p = slices.Insert(*p, p.rank(key), api.Pair{Key: key, Elem: elem})
	return true
}

func (p *plain) drop(key string) bool {
	n := len(*p)
	*p = slices.DeleteFunc(*p, func(x api.Pair) bool { return x.Key == key })
	return len(*p) < n
}

// above: the first pair of those whose key is above text, or (with itself) not below it.
func (p plain) above(text string, itself bool) (api.Pair, bool) {
	for _, x := range p {
		if before(text, x.Key) || itself && x.Key == text {
			return x, true
		}
	}
	return api.Pair{}, false
}

// below: the last pair of those whose key is below text, or (with itself) not above it.
func (p plain) below(text string, itself bool) (last api.Pair, ok bool) {
	for _, x := range p {
		if before(x.Key, text) || itself && x.Key == text {
			last, ok = x, true
		}
	}
	return last, ok
}

// between: the pairs whose keys are not below from and are below to.
func (p plain) between(from, to string) plain {
	var l plain
	for _, x := range p {
		if !before(x.Key, from) && before(x.Key, to) {
			l = append(l, x)
		}
	}
	return l
}

func (p *plain) cut(from, to string) int {
	l := p.between(from, to)
	for _, x := range l {
		p.drop(x.Key)
	}
	return len(l)
}

// pairs: what an iterator gives, at most so many.
func pairs(seq iter.Seq2[string, string], most int) plain {
	var l plain
	for k, v := range seq {
		if len(l) == most {
			break
		}
		l = append(l, api.Pair{Key: k, Elem: v})
	}
	return l
}

// turned: the same pairs the other way round.
func turned(p plain) plain {
	l := slices.Clone(p)
	slices.Reverse(l)
	return l
}

// told: pairs for a message.
func told(p plain) string {
	s := fmt.Sprintf("%d pairs: %q", len(p), []api.Pair(p))
	if len(s) > 400 {
		return s[:300] + " .."
	}
	return s
}

// bench: a tree among marked blocks, and what it must hold.
type bench struct {
	t     *testing.T
	a     *arena.Arena
	l     api.Layout
	x     order.Tree
	want  plain
	other map[int]string // the bytes of the blocks that are not the tree's
}

// set: a bench with an empty tree. There are blocks of the sizes that a tree takes, too, live ones and free ones, full of marks: what a node lays there must be laid whole.
func set(t *testing.T, limit int, d [5]int) *bench {
	t.Helper()
	b := &bench{t: t, a: open(t, limit), l: lay(t, d)}
	var sizes []int
	for n := 16; n <= nodeBytes(b.l); n++ {
		if arena.Class(n) == n {
			sizes = append(sizes, n, n, n)
		}
	}
	offs, e := b.a.AllocAll(sizes...)
	answers(t, "AllocAll", e, api.OK)
	for off, size := range b.a.Blocks() {
		answers(t, "Write", b.a.Write(off, strings.Repeat("\xA5", size)), api.OK)
	}
	for i := 1; i < len(offs); i += 3 {
		answers(t, "Free", b.a.Free(offs[i]), api.OK)
	}
	b.other = look(t, b.a).bytes
	b.x = made(t, b.a, b.l)
	b.sound("P26.1: New")
	return b
}

// twin: a bench whose tree is the same, in an arena of its own.
func (b *bench) twin() *bench {
	b.t.Helper()
	c := *b
	c.want = slices.Clone(b.want)
	c.a = twin(b.t, b.a, b.a.Limit())
	c.x = order.At(c.a, b.l, b.x.Off())
	return &c
}

func (b *bench) key(number int) string { return key(b.l.Key, number) }

func (b *bench) elem(which int) string { return elem(b.l.Elem, which) }

// put: the pair is put into the tree and into the list.
func (b *bench) put(key, elem string) {
	b.t.Helper()
	want := b.want.put(key, elem)
	if got, e := b.x.Put(key, elem); got != want || e != api.OK {
		b.t.Fatalf("P26.2: Put(%q) into %s: %v, error %d, want %v", key, told(b.want), got, e, want)
	}
}

// fill: so many keys, from the number first on.
func (b *bench) fill(first, n int) *bench {
	b.t.Helper()
	for i := range n {
		b.put(b.key(first+i), b.elem(i))
	}
	return b
}

func (b *bench) drop(key string) {
	b.t.Helper()
	want := b.want.drop(key)
	if got, e := b.x.Delete(key); got != want || e != api.OK {
		b.t.Fatalf("P26.2: Delete(%q): %v, error %d, want %v", key, got, e, want)
	}
}

func (b *bench) cut(from, to string) {
	b.t.Helper()
	want := b.want.cut(from, to)
	if got, e := b.x.Cut(from, to); got != want || e != api.OK {
		b.t.Fatalf("P26.6: Cut(%q, %q): %d, error %d, want %d", from, to, got, e, want)
	}
}

// sound: P26.8 and P26.9: the tree's numbers and blocks are within the bounds, and the other blocks are as they were.
func (b *bench) sound(what string) {
	b.t.Helper()
	s, e := b.x.Stat()
	answers(b.t, what+": P26.8: Stat", e, api.OK)
	if s.Used != len(b.want) {
		b.t.Fatalf("%s: P26.8: Stat is %v of %d keys", what, s, len(b.want))
	}
	least, most := 1, 7
	for range s.Height - 1 {
		least, most = 4*least+3, 8*most+7
	}
	switch {
	case s.Used == 0 && s != (api.OrderStat{}):
		b.t.Fatalf("%s: P26.8: Stat of an empty tree is %v", what, s)
	case s.Used > 0 && (s.Height < 1 || s.Used < least || s.Used > most || s.Used > 7*s.Nodes || s.Used < 1+3*(s.Nodes-1)):
		b.t.Fatalf("%s: P26.8: Stat is %v", what, s)
	}
	if fault := order.Broken(b.x); fault != "" {
		b.t.Fatalf("%s: P26.8: %s", what, fault)
	}
	b.blocks(what, s.Nodes)
}

// blocks: the arena has the tree's header, so many nodes, and the other blocks as they were.
func (b *bench) blocks(what string, nodes int) {
	b.t.Helper()
	own, others := 0, 0
	for off, size := range b.a.Blocks() {
		if bytes, other := b.other[off]; other {
			others++
			if now, e := b.a.Read(off, size); now != bytes || e != api.OK {
				b.t.Fatalf("%s: P26.9: the block at %d, which is not the tree's, holds %.40q, error %d", what, off, now, e)
			}
			continue
		}
		own++
		if off == b.x.Off() && size != 64 || off != b.x.Off() && size > nodeBytes(b.l) {
			b.t.Fatalf("%s: P26.8: a block of %d bytes at %d, the header is at %d", what, size, off, b.x.Off())
		}
	}
	if own != 1+nodes || others != len(b.other) {
		b.t.Fatalf("%s: P26.8: the tree has %d blocks, want %d; others: %d, want %d", what, own, 1+nodes, others, len(b.other))
	}
}

// whole: the tree holds just the list's pairs, by every call that tells them.
func (b *bench) whole(what string) {
	b.t.Helper()
	b.sound(what)
	top := strings.Repeat("\xFF", 129)
	if got := pairs(b.x.Range("", top), len(b.want)+1); !slices.Equal(got, b.want) {
		b.t.Fatalf("%s: P26.5: Range gives %s, want %s", what, told(got), told(b.want))
	}
	if got := pairs(b.x.Back("", top), len(b.want)+1); !slices.Equal(turned(got), b.want) {
		b.t.Fatalf("%s: P26.5: Back gives %s, want the other way round %s", what, told(got), told(b.want))
	}
	for i, p := range b.want {
		elem, ok, e := b.x.Get(p.Key)
		n, f := b.x.Rank(p.Key)
		q, yes, g := b.x.Nth(i)
		if elem != p.Elem || !ok || n != i || q != p || !yes || e != api.OK || f != api.OK || g != api.OK {
			b.t.Fatalf("%s: P26.2 to P26.4: pair %d, %q: Get %q, %v, %d; Rank %d, %d; Nth %q, %v, %d", what, i, p, elem, ok, e, n, f, q, yes, g)
		}
	}
}

// asks: what Get, Floor, Ceiling, Rank say of a text.
func (b *bench) asks(text string) {
	b.t.Helper()
	floor, low := b.want.below(text, true)
	ceiling, high := b.want.above(text, true)
	if p, ok, e := b.x.Floor(text); p != floor || ok != low || e != api.OK {
		b.t.Fatalf("P26.3: Floor(%q) of %s: %q, %v, error %d, want %q, %v", text, told(b.want), p, ok, e, floor, low)
	}
	if p, ok, e := b.x.Ceiling(text); p != ceiling || ok != high || e != api.OK {
		b.t.Fatalf("P26.3: Ceiling(%q) of %s: %q, %v, error %d, want %q, %v", text, told(b.want), p, ok, e, ceiling, high)
	}
	if n, e := b.x.Rank(text); n != b.want.rank(text) || e != api.OK {
		b.t.Fatalf("P26.3: Rank(%q) of %s: %d, error %d, want %d", text, told(b.want), n, e, b.want.rank(text))
	}
	elem, ok := b.want.get(text)
	want := api.OK
	if len(text) != b.l.Key {
		want = api.ErrKeyWidth
	}
	if got, yes, e := b.x.Get(text); got != elem || yes != ok || e != want {
		b.t.Fatalf("P26.2: Get(%q) of %s: %q, %v, error %d, want %q, %v, %d", text, told(b.want), got, yes, e, elem, ok, want)
	}
}
