package order_test

import (
	"fmt"
	"maps"
	"sync"
	"testing"

	"larder/api"
)

// TestAtOnce: W2: several goroutines, each with a tree in an arena of its own, do the same at once: each leaves what it would leave alone.
func TestAtOnce(t *testing.T) {
	left := func() map[int]string {
		b := set(t, 1<<20, descriptors[3])
		d := draws(2618)
		for range 400 {
			b.step(d, 120)
		}
		b.whole("W2: beside others")
		return look(t, b.a).bytes
	}
	want := left()
	var all sync.WaitGroup
	for range 6 {
		all.Go(func() {
			if !maps.Equal(left(), want) {
				t.Error("W2: at once with others the same calls leave other bytes")
			}
		})
	}
	all.Wait()
}

// TestReadersAtOnce: P26.1: a Tree keeps nothing, and what only reads changes nothing: several goroutines that read one tree are answered as if they were alone.
func TestReadersAtOnce(t *testing.T) {
	b := set(t, 1<<20, descriptors[3]).fill(0, 150)
	read := func() string {
		var s string
		for i := range 160 {
			k := b.key(i)
			p, low, e := b.x.Floor(k)
			q, high, f := b.x.Nth(i)
			n, g := b.x.Rank(k)
			s += fmt.Sprint(p, low, e, q, high, f, n, g)
		}
		return s + fmt.Sprint(pairs(b.x.Range("", "\xFF"), 999), pairs(b.x.Back("", "\xFF"), 999))
	}
	want := read()
	var all sync.WaitGroup
	for range 6 {
		all.Go(func() {
			if read() != want {
				t.Error("several readers at once are answered otherwise than one alone")
			}
		})
	}
	all.Wait()
	if s := stat(t, b); s != (api.OrderStat{Used: 150, Height: s.Height, Nodes: s.Nodes}) {
		t.Errorf("behind readers Stat is %v", s)
	}
}
