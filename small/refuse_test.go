package small_test

import (
	"math"
	"testing"

	"larder/api"
)

// fillings: none, some, all of the slots: a refusal is the same in each.
var fillings = []int{0, 3, 8}

// firstOf: the error of a put in the chapter's order.
func firstOf(key, elem, tag, birth bool) api.Errno {
	switch {
	case key:
		return api.ErrKeyWidth
	case elem:
		return api.ErrElemWidth
	case tag:
		return api.ErrTag
	case birth:
		return api.ErrBirth
	}
	return api.OK
}

// TestTheOrderOfPutsErrors: every set of wrong arguments, so each pair of them too; with a key that is there and with one that isn't.
func TestTheOrderOfPutsErrors(t *testing.T) {
	for _, n := range fillings {
		benches(t, func(b *bench) {
			b.fill(n)
			for set := 1; set < 16; set++ {
				wrongKey, wrongElem, wrongTag, wrongBirth := set&1 > 0, set&2 > 0, set&4 > 0, set&8 > 0
				for _, key := range []int{1, 200} {
					x := args{tag: 0, key: text(b.l.Key, key), elem: text(b.l.Elem, 7)}
					if wrongKey {
						x.key = widths(b.l.Key)[key%2]
					}
					if wrongElem {
						x.elem = widths(b.l.Elem)[key%2]
					}
					if wrongTag {
						x.tag = []int{-1, 128}[key%2]
					}
					if wrongBirth {
						x.birth = -1
					}
					b.refuses("Put", x, firstOf(wrongKey, wrongElem, wrongTag, wrongBirth))
				}
			}
			b.holds("P11.4: refused puts")
		})
	}
}

// TestTheOrderOfAKeysErrors: Find, Get and Delete: the key's width ahead of the tag.
func TestTheOrderOfAKeysErrors(t *testing.T) {
	for _, n := range fillings {
		benches(t, func(b *bench) {
			b.fill(n)
			for _, name := range []string{"Find", "Get", "Delete"} {
				for _, key := range widths(b.l.Key) {
					for _, tag := range append([]int{0, 5, 127}, noTags...) {
						b.refuses(name, args{tag: tag, key: key}, api.ErrKeyWidth)
					}
				}
				for _, tag := range noTags {
					b.refuses(name, args{tag: tag, key: text(b.l.Key, 1)}, api.ErrTag)
					b.refuses(name, args{tag: tag, key: text(b.l.Key, 0)}, api.ErrTag)
				}
			}
			b.holds("P11.3, P11.5: refused calls")
		})
	}
}

// TestPutsWrongArguments: each width, each tag, each birth.
func TestPutsWrongArguments(t *testing.T) {
	for _, n := range fillings {
		benches(t, func(b *bench) {
			b.fill(n)
			key, elem := text(b.l.Key, 1), text(b.l.Elem, 7)
			for _, k := range widths(b.l.Key) {
				b.refuses("Put", args{key: k, elem: elem}, api.ErrKeyWidth)
			}
			for _, m := range widths(b.l.Elem) {
				b.refuses("Put", args{key: key, elem: m}, api.ErrElemWidth)
			}
			for _, tag := range noTags {
				b.refuses("Put", args{tag: tag, key: key, elem: elem}, api.ErrTag)
			}
			for _, birth := range noBirths {
				b.refuses("Put", args{key: key, elem: elem, birth: birth}, api.ErrBirth)
			}
			b.holds("P11.4: refused puts")
		})
	}
}

// TestTagsAndBirthsAtTheirBounds: taken, and told as they are.
func TestTagsAndBirthsAtTheirBounds(t *testing.T) {
	benches(t, func(b *bench) {
		for i, birth := range []int{0, 1, 255, 256, 1 << 32, 1 << 62, math.MaxInt - 1, math.MaxInt} {
			if out := b.put([]int{0, 1, 126, 127}[i%4], 1+i, 9, birth); out != api.PutAdded {
				t.Fatalf("P11.4: birth %d: outcome %d", birth, out)
			}
		}
		b.holds("P11.4: tags and births at their bounds")
	})
}
