package order_test

import (
	"fmt"
	"testing"

	"larder/api"
)

// TestFree: P26.10: all the tree's blocks are free, and no others; from then on every call but Off and At answers ErrDead, ahead of every other error, and changes nothing.
func TestFree(t *testing.T) {
	benches(t, func(b *bench) {
		off := b.x.Off()
		answers(t, "P26.10: Free", b.x.Free(), api.OK)
		left := look(t, b.a).bytes
		if len(left) != len(b.other) {
			t.Fatalf("P26.10: %d blocks are left, want %d", len(left), len(b.other))
		}
		for at, bytes := range b.other {
			if left[at] != bytes {
				t.Fatalf("P26.10: the block at %d, which is not the tree's, has changed or is free", at)
			}
		}
		for _, key := range append(widths(b.l.Key), b.key(0), b.key(1)) {
			for _, elem := range append(widths(b.l.Elem), b.elem(0)) {
				for _, c := range calls(key, elem, key, len(key)) {
					refuses(t, fmt.Sprintf("P26.10: dead, a key of %d bytes, an elem of %d", len(key), len(elem)), b.a, b.x, c, api.ErrDead)
				}
			}
		}
		for _, i := range far {
			refuses(t, "P26.10: dead", b.a, b.x, calls("", "", "", i)[7], api.ErrDead)
		}
		if l := append(pairs(b.x.Range("", "\xFF\xFF"), 9), pairs(b.x.Back("", "\xFF\xFF"), 9)...); len(l) > 0 {
			t.Fatalf("P26.10: a dead tree gives %s", told(l))
		}
		if b.x.Off() != off {
			t.Fatalf("P26.10: a dead tree's Off is %d, it was %d", b.x.Off(), off)
		}
	})
}

// TestFreeAlone: P26.10: of trees alone in an arena no byte is live any more, and a new tree begins where the old one did.
func TestFreeAlone(t *testing.T) {
	a := open(t, 1<<20)
	l := lay(t, descriptors[2])
	for _, n := range used {
		b := &bench{t: t, a: a, l: l, x: made(t, a, l)}
		b.fill(0, n)
		b.whole("P26.10: a tree at the place of one that was freed")
		if b.x.Off() != 16 {
			t.Errorf("P26.10: the offset of a new tree is %d", b.x.Off())
		}
		answers(t, "P26.10: Free", b.x.Free(), api.OK)
		if a.Live() != 0 {
			t.Errorf("P26.10: %d bytes are live behind Free of %d keys", a.Live(), n)
		}
	}
}
