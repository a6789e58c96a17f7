package order_test

import (
	"testing"

	"larder/api"
)

// around: texts that stand close to a key: itself, its beginnings, longer ones, and those with another last byte.
func around(key string) []string {
	n := len(key)
	l := []string{key, key[:n-1], key + "\x00", key + "\xFF", key + key, key[:n/2]}
	for _, c := range []byte{key[n-1] + 1, key[n-1] - 1, 0, 127, 128, 255} {
		l = append(l, key[:n-1]+string([]byte{c}))
	}
	return l
}

// TestNeighbours: P26.3: Floor, Ceiling and Rank of texts of any length, below, between, at and above the keys.
func TestNeighbours(t *testing.T) {
	benches(t, func(b *bench) {
		before := look(t, b.a)
		for _, text := range texts() {
			b.asks(text)
		}
		for i, p := range b.want {
			if i > 40 && i%7 > 0 {
				continue
			}
			for _, text := range around(p.Key) {
				b.asks(text)
			}
		}
		for _, key := range []string{b.key(1), b.key(3), b.key(13), b.key(127), b.key(255), b.key(65535)} {
			b.asks(key)
		}
		like(t, "P26.3: what only reads", b.a, before)
	})
}

// TestNeighboursOfBeginnings: P26.3: keys and texts over few bytes, so that one is often another's beginning.
func TestNeighboursOfBeginnings(t *testing.T) {
	d := draws(2603)
	letters := "\x00\x01\x7F\x80\xFF"
	for _, width := range []int{1, 2, 3} {
		b := set(t, 1<<20, [5]int{width, 2, 1, 1, 16})
		for range 60 {
			k := ""
			for range width {
				k += string([]byte{letters[d.Intn(len(letters))]})
			}
			b.put(k, b.elem(d.Intn(99)))
			if d.Intn(3) == 0 {
				b.drop(k)
			}
			text := ""
			for range d.Intn(6) {
				text += string([]byte{letters[d.Intn(len(letters))]})
			}
			b.asks(text)
			b.asks(k)
			b.asks(k + text)
		}
		b.whole("P26.3")
	}
}

// TestByNumber: P26.4: each number from 0 to Used, those around it, and far ones.
func TestByNumber(t *testing.T) {
	benches(t, func(b *bench) {
		before := look(t, b.a)
		list := append(far, -2, -3, len(b.want)+1, len(b.want)+2, 3*len(b.want)+5)
		for i := -1; i <= len(b.want); i++ {
			list = append(list, i)
		}
		for _, i := range list {
			want, ok := b.want.nth(i)
			if p, yes, e := b.x.Nth(i); p != want || yes != ok || e != api.OK {
				t.Fatalf("P26.4: Nth(%d) of %s: %q, %v, error %d, want %q, %v", i, told(b.want), p, yes, e, want, ok)
			}
		}
		like(t, "P26.4: Nth", b.a, before)
	})
}
