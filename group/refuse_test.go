package group_test

import (
	"fmt"
	"math"
	"slices"
	"strings"
	"testing"

	"larder/api"
	"larder/group"
)

// args: what the calls of a group are handed.
type args struct {
	i, tag    int
	key, elem string
	birth     int
}

// call: one of a group's calls; asks: its arguments, a letter each; do: is every other result zero, and which is the error?
type call struct {
	name string
	asks string
	do   func(g group.Group, x args) (bool, api.Errno)
}

var calls = []call{
	{"Reset", "", func(g group.Group, x args) (bool, api.Errno) { return true, g.Reset() }},
	{"Word", "", func(g group.Group, x args) (bool, api.Errno) { w, e := g.Word(); return w == 0, e }},
	{"Cell", "i", func(g group.Group, x args) (bool, api.Errno) { c, e := g.Cell(x.i); return c == api.Cell{}, e }},
	{"Find", "tk", func(g group.Group, x args) (bool, api.Errno) { i, e := g.Find(x.tag, x.key); return i == 0, e }},
	{"Fill", "itkeb", func(g group.Group, x args) (bool, api.Errno) { return true, g.Fill(x.i, x.tag, x.key, x.elem, x.birth) }},
	{"SetElem", "ie", func(g group.Group, x args) (bool, api.Errno) { return true, g.SetElem(x.i, x.elem) }},
	{"Erase to deleted", "i", func(g group.Group, x args) (bool, api.Errno) { return true, g.Erase(x.i, true) }},
	{"Erase to empty", "i", func(g group.Group, x args) (bool, api.Errno) { return true, g.Erase(x.i, false) }},
	{"Prune", "", func(g group.Group, x args) (bool, api.Errno) { n, e := g.Prune(); return n == 0, e }},
}

// refusal: the first of P6.1's errors that applies to the call's own arguments.
func (c call) refusal(l api.Layout, x args) api.Errno {
	has := func(letter string) bool { return strings.Contains(c.asks, letter) }
	switch {
	case has("i") && (x.i < 0 || x.i > 7):
		return api.ErrSlot
	case has("t") && (x.tag < 0 || x.tag > 127):
		return api.ErrTag
	case has("k") && len(x.key) != l.Key:
		return api.ErrKeyWidth
	case has("e") && len(x.elem) != l.Elem:
		return api.ErrElemWidth
	case has("b") && x.birth < 0:
		return api.ErrBirth
	}
	return api.OK
}

// refused: the call answers this error, and zero beside it.
func (c call) refused(t *testing.T, what string, g group.Group, x args, want api.Errno) {
	t.Helper()
	zero, e := c.do(g, x)
	if e != want || !zero {
		t.Fatalf("%s: %s of %.300s: error %d, want %d, all else zero: %v", what, c.name, fmt.Sprintf("%#v", x), e, want, zero)
	}
}

// mixed: arguments right and wrong, each with each.
func mixed(l api.Layout, each func(x args)) {
	keys := append([]string{text(l.Key, 7)}, widths(l.Key)...)
	elems := append([]string{text(l.Elem, 90)}, widths(l.Elem)...)
	for _, i := range []int{0, 1, 2, 7, -1, 8, math.MinInt, math.MaxInt} {
		for _, tag := range []int{0, 127, -1, 128, 254, math.MinInt, math.MaxInt} {
			for _, key := range keys {
				for _, elem := range elems {
					for _, birth := range []int{0, math.MaxInt, -1, math.MinInt} {
						each(args{i, tag, key, elem, birth})
					}
				}
			}
		}
	}
}

// TestFirstWrongArgumentIsTold: any of the arguments wrong together, of a group that is there and of some that aren't.
func TestFirstWrongArgumentIsTold(t *testing.T) {
	for _, d := range descriptors[:7] {
		b := set(t, d, 21)
		b.mix()
		away := group.At(b.a, b.l, b.freed)
		broken := b.l
		broken.Cap++
		wrong := group.At(b.a, broken, b.block+b.at)
		mixed(b.l, func(x args) {
			for _, c := range calls {
				want := c.refusal(b.l, x)
				if want != api.OK {
					c.refused(t, "P6.1: a wrong argument", b.g, x, want)
				} else {
					want = api.ErrDead
				}
				c.refused(t, "P6.1: a group in a free block", away, x, want)
				c.refused(t, "P6.1: a group of a wrong layout", wrong, x, want)
			}
		})
		b.holds("P6.1: behind all that was refused")
	}
}

// TestEachWrongArgumentAlone: nothing else is wrong, and not a byte has changed behind it.
func TestEachWrongArgumentAlone(t *testing.T) {
	benches(t, func(b *bench) {
		b.mix()
		before := b.picture()
		refused := func(x args) {
			t.Helper()
			for _, c := range calls {
				if want := c.refusal(b.l, x); want != api.OK {
					c.refused(t, "P6.1", b.g, x, want)
					like(t, "P6.1: behind a refused "+c.name, b.a, before)
				}
			}
		}
		right := args{3, 40, text(b.l.Key, 7), text(b.l.Elem, 5), 6}
		for _, n := range noSlot {
			x := right
			x.i = n
			refused(x)
		}
		for _, n := range noTag {
			x := right
			x.tag = n
			refused(x)
		}
		for _, n := range noBirth {
			x := right
			x.birth = n
			refused(x)
		}
		for _, s := range widths(b.l.Key) {
			x := right
			x.key = s
			refused(x)
		}
		for _, s := range widths(b.l.Elem) {
			x := right
			x.elem = s
			refused(x)
		}
		b.holds("P6.1: behind all that was refused")
	})
}

// TestVacantIsToldLast: a slot that is not full is looked at behind all else.
func TestVacantIsToldLast(t *testing.T) {
	benches(t, func(b *bench) {
		b.mix()
		set := calls[slices.IndexFunc(calls, func(c call) bool { return c.name == "SetElem" })]
		for i, c := range b.cells {
			if c.Kind == api.CellFull {
				continue
			}
			for _, elem := range widths(b.l.Elem) {
				set.refused(t, "P6.1: a vacant slot and a wrong elem", b.g, args{i: i, elem: elem}, api.ErrElemWidth)
			}
			elem := text(b.l.Elem, 5)
			set.refused(t, "P6.7: a vacant slot", b.g, args{i: i, elem: elem}, api.ErrVacant)
			set.refused(t, "P6.1: a vacant slot's group that isn't there", group.At(b.a, b.l, b.freed), args{i: i, elem: elem}, api.ErrDead)
		}
		b.holds("P6.7: behind all that was refused")
	})
}

// TestWrongLayoutsOwnWidths: the widths that a key and an elem must have are the layout's numbers, be the layout valid or not.
func TestWrongLayoutsOwnWidths(t *testing.T) {
	b := set(t, [5]int{2, 1, 1, 1, 16}, 0)
	for _, c := range []struct {
		l         api.Layout
		key, elem string
		want      api.Errno // of Fill
	}{
		{api.Layout{}, "", "", api.ErrDead},
		{api.Layout{}, "ab", "", api.ErrKeyWidth},
		{api.Layout{}, "", "x", api.ErrElemWidth},
		{api.Layout{Key: 2, Elem: 1}, "ab", "x", api.ErrDead},
		{api.Layout{Key: 2, Elem: 1}, "", "x", api.ErrKeyWidth},
		{api.Layout{Key: 2, Elem: 1}, "ab", "", api.ErrElemWidth},
		{api.Layout{Key: 200, Elem: 300}, text(200, 1), text(300, 1), api.ErrDead},
		{api.Layout{Key: -1, Elem: 1}, "", "x", api.ErrKeyWidth},
		{api.Layout{Key: math.MinInt, Elem: 0}, "", "", api.ErrKeyWidth},
		{api.Layout{Key: 0, Elem: math.MinInt}, "", "", api.ErrElemWidth},
		{api.Layout{Key: math.MaxInt, Elem: 0}, "ab", "", api.ErrKeyWidth},
	} {
		g := group.At(b.a, c.l, b.block)
		what := fmt.Sprintf("P6.1: the layout %+v", c.l)
		answers(t, what+", Fill", g.Fill(0, 0, c.key, c.elem, 0), c.want)
		if len(c.key) == c.l.Key {
			_, e := g.Find(0, c.key)
			answers(t, what+", Find", e, api.ErrDead)
		}
	}
	b.holds("P6.1: behind all that was refused")
}
