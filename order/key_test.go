package order_test

import (
	"fmt"
	"maps"
	"slices"
	"testing"

	"larder/api"
)

// used: numbers of keys around the edges at which a tree changes its shape.
var used = []int{0, 1, 2, 6, 7, 8, 9, 30, 63, 64, 200}

// benches: a bench for each descriptor and for several numbers of keys: the numbers 0, 2, 4, ..
func benches(t *testing.T, each func(b *bench)) {
	t.Helper()
	for _, d := range descriptors {
		for _, n := range used {
			if d[0] == 1 && n > 128 {
				continue
			}
			b := set(t, 1<<20, d)
			for i := range n {
				b.put(b.key(2*(i*89%n)), b.elem(i))
			}
			each(b)
		}
	}
}

// TestWidths: P26.2: keys and elems of each wrong length; of both wrong at once the key's error comes first; nothing has changed.
func TestWidths(t *testing.T) {
	benches(t, func(b *bench) {
		for _, there := range []string{b.key(0), b.key(1), b.key(7)} {
			for _, elem := range widths(b.l.Elem) {
				c := calls(there, elem, "", 0)[2]
				refuses(t, fmt.Sprintf("P26.2: an elem of %d bytes", len(elem)), b.a, b.x, c, api.ErrElemWidth)
			}
		}
		for _, key := range widths(b.l.Key) {
			for _, elem := range append(widths(b.l.Elem), b.elem(1)) {
				for _, c := range calls(key, elem, "", 0)[1:4] {
					refuses(t, fmt.Sprintf("P26.2: a key of %d bytes, an elem of %d", len(key), len(elem)), b.a, b.x, c, api.ErrKeyWidth)
				}
			}
		}
		b.whole("P26.2: behind refused calls")
	})
}

// TestPutAnew: P26.2: a put of a key that is there changes its elem and nothing else.
func TestPutAnew(t *testing.T) {
	benches(t, func(b *bench) {
		before, st := look(t, b.a), stat(t, b)
		for i, p := range slices.Clone(b.want) {
			b.put(p.Key, b.elem(i+100))
			if i%20 == 0 {
				b.whole("P26.2: a put anew")
			}
		}
		b.whole("P26.2: puts anew")
		now := look(t, b.a)
		if !slices.Equal(now.parts, before.parts) || stat(t, b) != st {
			t.Fatalf("P26.2: puts of keys that are there change the blocks, or Stat from %v to %v", st, stat(t, b))
		}
		for i, p := range slices.Clone(b.want) {
			b.put(p.Key, b.elem(i+100))
		}
		if again := look(t, b.a); !maps.Equal(now.bytes, again.bytes) {
			t.Fatal("P26.2: puts of pairs that are there just so change bytes")
		}
	})
}

func stat(t *testing.T, b *bench) api.OrderStat {
	t.Helper()
	s, e := b.x.Stat()
	answers(t, "Stat", e, api.OK)
	return s
}

// TestDeleteNone: P26.2: a delete of a key that is not there: false, and nothing has changed.
func TestDeleteNone(t *testing.T) {
	benches(t, func(b *bench) {
		before := look(t, b.a)
		for i := range min(2*len(b.want)+4, 128) {
			b.drop(b.key(2*i + 1))
		}
		like(t, "P26.2: deletes of keys that are not there", b.a, before)
	})
}

// TestOneKey: P26.2: each key alone is put, asked for, put anew and deleted, among others and with none.
func TestOneKey(t *testing.T) {
	benches(t, func(b *bench) {
		if len(b.want) > 64 {
			return
		}
		for i := range 2*len(b.want) + 2 {
			key := b.key(i)
			elem, there := b.want.get(key)
			b.put(key, b.elem(i+50))
			b.asks(key)
			b.put(key, b.elem(i+51))
			b.asks(key)
			b.sound("P26.2: a put")
			b.drop(key)
			b.asks(key)
			b.drop(key)
			b.sound("P26.2: a delete")
			if there {
				b.put(key, elem)
			}
		}
		b.whole("P26.2: behind all")
	})
}

// TestEdgeBytes: P26.2, P26.3: keys and elems of every byte: zeros, bytes above 127.
func TestEdgeBytes(t *testing.T) {
	b := set(t, 1<<20, descriptors[0])
	for i := range 256 {
		b.put(b.key(i*77%256), string([]byte{byte(i)}))
	}
	b.whole("P26.2: all keys of one byte")
	for i := range 256 {
		b.asks(b.key(i))
	}
	b = set(t, 1<<20, descriptors[3])
	n := 0
	for _, first := range []string{"\x00", "\x7F", "\x80", "\xFF"} {
		for _, middle := range []string{"\x00\x00\x00", "\xFF\x00\x80", "\x80\xFF\xFF", "abc"} {
			for _, last := range []string{"\x00", "\x01", "\x7F", "\x80", "\xFF"} {
				n++
				b.put(first+middle+last, []string{"\x00\x00\x00\x00", "\xFF\xFF\xFF\xFF", "\x00\x01\xFE\x80"}[n%3])
			}
		}
	}
	b.whole("P26.2: bytes of all kinds")
}

// step: one drawn call, done to the tree and to the list.
func (b *bench) step(d drawer, keys int) string {
	b.t.Helper()
	k := b.key(d.Intn(keys))
	switch d.Intn(10) {
	case 0, 1, 2, 3:
		b.put(k, b.elem(d.Intn(1000)))
		return "put"
	case 4, 5, 6:
		b.drop(k)
		return "delete"
	case 7:
		from := d.Intn(keys)
		b.cut(b.key(from), b.key(from+d.Intn(1+keys/20)))
		return "cut"
	case 8:
		b.asks(k)
		return "ask"
	}
	i := d.Intn(len(b.want)+3) - 1
	want, ok := b.want.nth(i)
	if p, yes, e := b.x.Nth(i); p != want || yes != ok || e != api.OK {
		b.t.Fatalf("P26.4: Nth(%d) of %s: %q, %v, error %d", i, told(b.want), p, yes, e)
	}
	return "nth"
}

// TestCallByCall: drawn calls, behind each the tree's shape and the other blocks, now and then all that it holds.
func TestCallByCall(t *testing.T) {
	for seed, d := range descriptors {
		draw := draws(int64(2600 + seed))
		for _, keys := range []int{9, 40, 250, 2000} {
			if d[0] == 1 && keys > 256 {
				continue
			}
			b := set(t, 1<<21, d)
			for i := range 1200 {
				what := b.step(draw, keys)
				b.sound(what)
				if i%100 == 0 {
					b.whole(what)
				}
			}
			b.whole("behind all")
		}
	}
}
