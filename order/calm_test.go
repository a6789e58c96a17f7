package order_test

import (
	"math"
	"strings"
	"testing"

	"larder/api"
	"larder/order"
)

// TestAnyArgument: W1: texts of any length and numbers of any size: no call panics, each ends, and a tree of every size stays sound.
func TestAnyArgument(t *testing.T) {
	d := draws(2619)
	long := strings.Repeat("\xFF", 1<<20)
	benches(t, func(b *bench) {
		for _, text := range []string{"", "\x00", long, long[:300] + "\x00", b.key(0), b.key(3)} {
			for _, elem := range []string{long, b.elem(1)} {
				x := b.twin().x
				for _, c := range calls(text, elem, text, pick(d, far...)) {
					c.do(x)
					if fault := order.Broken(x); fault != "" && c.name != "Free" {
						t.Fatalf("W1: behind %s of %.20q: %s", c.name, text, fault)
					}
				}
			}
			b.asks(text)
		}
		b.whole("W1: any arguments")
	})
}

// TestAnyPlace: W1: At of any offset of an arena in which all kinds of bytes lie: nothing is said of the answers, but each call ends.
func TestAnyPlace(t *testing.T) {
	d := draws(2617)
	for _, desc := range descriptors {
		a := open(t, 1<<16)
		l := lay(t, desc)
		for range 60 {
			off, e := a.Alloc(1 + d.Intn(500))
			if e != api.OK {
				break
			}
			size, _ := a.Size(off)
			a.Write(off, strings.Repeat(string([]byte{pick[byte](d, 0, 1, 7, 8, 255)}), size))
		}
		b := &bench{t: t, a: a, l: l, x: made(t, a, l)}
		b.fill(0, 40)
		k, v := b.key(3), b.elem(5)
		for i := range 3000 {
			off := d.Intn(a.End() + 100)
			if i < len(far) {
				off = far[i]
			}
			if off == b.x.Off() {
				continue
			}
			x := order.At(a, l, off)
			for _, c := range calls(k, v, k, 3) {
				c.do(x)
			}
			pairs(x.Range("", "\xFF\xFF"), 5)
			pairs(x.Back("", "\xFF\xFF"), 5)
		}
	}
}

// TestSpoilt: W1: a node that other hands have written, with more pairs than there are places, or none: no call panics, and each ends. Where it is the root, each call that looks at it is refused.
func TestSpoilt(t *testing.T) {
	numbers := []int{0, 8, 9, 255, 1 << 40, -1, math.MinInt, math.MaxInt}
	for _, n := range []int{1, 7, 8, 60} {
		b := narrow(t, descriptors[2])
		b.fill(0, n)
		for off := range b.a.Blocks() {
			if off == b.x.Off() {
				continue
			}
			for _, pairs := range numbers {
				for i := range calls("", "", "", 0) {
					c := b.twin()
					answers(t, "Store", c.a.Store(off+order.PairsAt, 8, uint64(pairs)), api.OK)
					k := b.key(i * 7 % n)
					call := calls(k, b.elem(1), k, i)[i]
					if off == order.Root(b.x) && call.name != "Stat" {
						refuses(t, "a spoilt root", c.a, c.x, call, api.ErrDead)
						continue
					}
					call.do(c.x)
				}
			}
		}
	}
}

// TestAnswersStay: W3: what was answered is not changed by what is done to the tree afterwards.
func TestAnswersStay(t *testing.T) {
	b := set(t, 1<<20, descriptors[3]).fill(0, 100)
	kept := pairs(b.x.Range("", "\xFF"), 100)
	elem, _, _ := b.x.Get(b.key(50))
	floor, _, _ := b.x.Floor(b.key(60))
	want, pair := b.elem(50), api.Pair{Key: b.key(60), Elem: b.elem(60)}
	was := append(plain{}, b.want...)
	for i := range 100 {
		b.put(b.key(i), b.elem(i+9))
	}
	answers(t, "Free", b.x.Free(), api.OK)
	for i, p := range kept {
		if p != was[i] {
			t.Fatalf("W3: a pair that was answered is %q now, it was %q", p, was[i])
		}
	}
	if elem != want || floor != pair {
		t.Errorf("W3: what Get answered is %q now, what Floor answered %q", elem, floor)
	}
}
