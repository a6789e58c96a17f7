package order_test

import (
	"fmt"
	"testing"

	"larder/api"
	"larder/arena"
	"larder/order"
)

// narrow: a bench with a tree and nothing else, so that it may be taken over by arenas of any limit.
func narrow(t *testing.T, d [5]int) *bench {
	t.Helper()
	b := &bench{t: t, a: open(t, api.MaxLimit), l: lay(t, d)}
	b.x = made(t, b.a, b.l)
	return b
}

// limited: the same tree in an arena with that limit.
func (b *bench) limited(limit int) *bench {
	b.t.Helper()
	c := b.twin()
	c.a = twin(b.t, b.a, limit)
	c.x = order.At(c.a, b.l, b.x.Off())
	return c
}

// need: as much as a put of a key that is not there may ask for.
func (b *bench) need() int { return (stat(b.t, b).Height + 1) * nodeBytes(b.l) }

// tries: a put of a key that is not there: it is done, or refused as P26.7 allows; then nothing has changed.
func (b *bench) tries(key string) bool {
	b.t.Helper()
	before, need := look(b.t, b.a), b.need()
	added, e := b.x.Put(key, b.elem(1))
	if e == api.OK && added {
		b.want.put(key, b.elem(1))
		b.sound("P26.7: a put with little room")
		return true
	}
	if e != api.ErrMemory || added || before.live+need <= before.limit {
		b.t.Fatalf("P26.7: Put(%q), %d bytes are live, at most %d may be asked for, the limit is %d: %v, error %d", key, before.live, need, before.limit, added, e)
	}
	like(b.t, "P26.7: a refused put", b.a, before)
	return false
}

// TestEveryLimit: P26.7: trees of several heights, under every limit from their live bytes up to what a put may ask for: puts of keys at many places.
func TestEveryLimit(t *testing.T) {
	for _, d := range descriptors {
		for _, by := range []int{1, 7, 249} { // rising keys, others, and falling ones
			b := narrow(t, d)
			most := 250
			refused := 0
			for i := range most {
				if live := b.a.Live(); i < 10 || i%59 == 0 {
					for limit := live; limit <= live+b.need(); limit += 16 * (1 + b.need()/4096) {
						if !b.limited(limit).tries(free(b, i, most)) {
							refused++
						}
					}
					for range 3 {
						if !b.limited(live + b.need()).tries(free(b, i, most)) {
							t.Fatal("P26.7: a put is refused that has all the room that it may ask for")
						}
					}
				}
				b.put(b.key(i*by%most), b.elem(i))
			}
			b.whole("P26.7: the tree whose twins are put into")
			if refused < 20 {
				t.Errorf("the test refuses too little: %d puts", refused)
			}
		}
	}
}

// free: a key that is not there: of the lesser ones, of those in the midst, or of the greater ones.
func free(b *bench, i, most int) string {
	for at := i * 31 % most; ; at++ {
		if k := b.key(at % (most + 1)); !b.want.has(k) {
			return k
		}
	}
}

// TestFull: P26.7: puts into an arena of every small limit, until and behind the first that is refused; then puts of keys that are there, deletes and cuts, without room.
func TestFull(t *testing.T) {
	for _, d := range descriptors[1:5] {
		d[0] += d[0] % 2 // width 2 at the least, so that there are keys enough
		n := nodeBytes(lay(t, d))
		for limit := 64; limit < 64+12*n; limit += 112 {
			b := &bench{t: t, a: open(t, limit), l: lay(t, d)}
			b.x = made(t, b.a, b.l)
			draw := draws(int64(limit))
			for refused := 0; refused < 5; {
				if k := b.key(draw.Intn(5000)); !b.want.has(k) && !b.tries(k) {
					refused++
				}
			}
			b.without(draw)
		}
	}
}

// without: all that needs no memory, in an arena that has none.
func (b *bench) without(d drawer) {
	b.t.Helper()
	for b.a.Live()+16 <= b.a.Limit() {
		off, e := b.a.Alloc(16)
		answers(b.t, "Alloc", e, api.OK)
		if b.other == nil {
			b.other = map[int]string{}
		}
		b.other[off], _ = b.a.Read(off, 16)
	}
	b.whole("P26.7: without room")
	for len(b.want) > 0 {
		k := b.want[d.Intn(len(b.want))].Key
		switch d.Intn(4) {
		case 0:
			b.put(k, b.elem(7))
		case 1, 2:
			b.drop(k)
		default:
			b.cut(k, k+"\x00")
		}
		b.asks(k)
		b.sound("P26.7: without room")
		if d.Intn(30) == 0 {
			b.cut(k, b.key(65535))
		}
	}
	b.whole("P26.7: emptied without room")
}

// TestRoomAgain: P26.7, P26.8: what deletes and cuts give back is there for puts again, and for other blocks.
func TestRoomAgain(t *testing.T) {
	b := set(t, 1<<20, descriptors[2]).fill(0, 500)
	empty := b.a.Live()
	b.cut("", "\xFF\xFF\xFF")
	if left := b.a.Live(); left >= empty || stat(t, b) != (api.OrderStat{}) {
		t.Errorf("P26.8: %d bytes are live behind a cut of all, %d were", left, empty)
	}
	end := b.a.End()
	b.fill(0, 500)
	b.whole("P26.8: filled again")
	if b.a.End() != end || b.a.Live() != empty {
		t.Errorf("P26.8: filled again the arena's end is %d, it was %d; %d bytes are live, %d were", b.a.End(), end, b.a.Live(), empty)
	}
}

// TestNoFirstNode: P26.7: an arena with no room behind the header: no put is done, and all else is as of an empty tree.
func TestNoFirstNode(t *testing.T) {
	for _, d := range descriptors {
		l := lay(t, d)
		for limit := 64; limit <= 64+nodeBytes(l); limit++ {
			a, e := arena.New(limit)
			answers(t, "arena.New", e, api.OK)
			b := &bench{t: t, a: a, l: l, x: made(t, a, l)}
			done := b.tries(b.key(3))
			if !done {
				b.drop(b.key(3))
				b.cut("", "\xFF")
				b.whole(fmt.Sprint("P26.7: the limit ", limit))
			}
			if limit == 64 && done || limit == 64+nodeBytes(l) && !done {
				t.Errorf("P26.7: a put with the limit %d: %v", limit, done)
			}
		}
	}
}
