package small_test

import (
	"testing"

	"larder/api"
	"larder/arena"
	"larder/small"
)

// example: the chapter's layout, and one in a new arena with that limit.
func example(t *testing.T, limit int) (*arena.Arena, api.Layout, small.Small) {
	t.Helper()
	a, l := open(t, limit), lay(t, [5]int{1, 1, 1, 1, 16})
	s, e := small.New(a, l)
	answers(t, "New", e, api.OK)
	return a, l, s
}

func puts(t *testing.T, s small.Small, tag int, key, elem string, birth, want int) {
	t.Helper()
	if n, e := s.Put(tag, key, elem, birth); n != want || e != api.OK {
		t.Fatalf("Put(%d, %q, %q, %d) = %d, error %d, want %d", tag, key, elem, birth, n, e, want)
	}
}

func isIn(t *testing.T, s small.Small, tag int, key string, want int) {
	t.Helper()
	if n, e := s.Find(tag, key); n != want || e != api.OK {
		t.Fatalf("Find(%d, %q) = %d, error %d, want %d", tag, key, n, e, want)
	}
}

func cellIs(t *testing.T, s small.Small, slot int, want api.Cell) {
	t.Helper()
	if c, e := s.Cell(slot); c != want || e != api.OK {
		t.Fatalf("Cell(%d) = %#v, error %d, want %#v", slot, c, e, want)
	}
}

func statIs(t *testing.T, s small.Small, want api.SmallStat) {
	t.Helper()
	if st, e := s.Stat(); st != want || e != api.OK {
		t.Fatalf("Stat = %+v, error %d, want %+v", st, e, want)
	}
}

func TestExampleNew(t *testing.T) {
	a, l, s := example(t, 1024)
	if l.Group != 136 || s.Off() != 16 || a.Live() != 192 {
		t.Errorf("example 1: it lies at %d, live %d", s.Off(), a.Live())
	}
	second, e := small.New(a, l)
	if second.Off() != 208 || a.Live() != 384 || e != api.OK {
		t.Errorf("example 1: the second lies at %d, live %d, error %d", second.Off(), a.Live(), e)
	}
	if s, e := small.New(open(t, 191), l); e != api.ErrMemory || s != (small.Small{}) {
		t.Errorf("example 1: with limit 191: error %d", e)
	}
}

func TestExampleKeys(t *testing.T) {
	_, _, s := example(t, 1024)
	puts(t, s, 5, "a", "x", 0, api.PutAdded)
	isIn(t, s, 5, "a", 0)
	puts(t, s, 5, "b", "y", 1, api.PutAdded)
	isIn(t, s, 5, "b", 1)
	puts(t, s, 5, "a", "z", 9, api.PutReplaced)
	cellIs(t, s, 0, api.Cell{Kind: api.CellFull, Tag: 5, Key: "a", Elem: "z", Birth: 0})
	isIn(t, s, 5, "b", 1)
	isIn(t, s, 6, "b", -1)

	for _, want := range []bool{true, false} {
		if was, e := s.Delete(5, "a"); was != want || e != api.OK {
			t.Fatalf("example 3: Delete = %v, error %d, want %v", was, e, want)
		}
		cellIs(t, s, 0, api.Cell{})
		statIs(t, s, api.SmallStat{Used: 1})
	}
	puts(t, s, 7, "c", "w", 2, api.PutAdded)
	isIn(t, s, 7, "c", 0)
}

func TestExampleEightKeys(t *testing.T) {
	_, _, s := example(t, 1024)
	for i, key := range []string{"a", "b", "c", "d", "e", "f", "g", "h"} {
		puts(t, s, i, key, "x", i, api.PutAdded)
	}
	statIs(t, s, api.SmallStat{Used: 8})
	puts(t, s, 8, "i", "x", 8, api.PutNoRoom)
	puts(t, s, 3, "d", "y", 9, api.PutReplaced)
	statIs(t, s, api.SmallStat{Used: 8})
}

func TestExampleRefusals(t *testing.T) {
	_, _, s := example(t, 1024)
	for _, c := range []struct {
		tag       int
		key, elem string
		birth     int
		want      api.Errno
	}{
		{200, "ab", "", -1, api.ErrKeyWidth},
		{200, "a", "", -1, api.ErrElemWidth},
		{200, "a", "x", -1, api.ErrTag},
		{5, "a", "x", -1, api.ErrBirth},
	} {
		if n, e := s.Put(c.tag, c.key, c.elem, c.birth); n != api.PutNothing || e != c.want {
			t.Errorf("example 5: Put(%d, %q, %q, %d) = %d, error %d, want error %d", c.tag, c.key, c.elem, c.birth, n, e, c.want)
		}
	}
	_, e := s.Find(-1, "")
	answers(t, "example 5: Find(-1, \"\")", e, api.ErrKeyWidth)
	_, e = s.Find(-1, "a")
	answers(t, "example 5: Find(-1, \"a\")", e, api.ErrTag)
	for i := range 8 {
		cellIs(t, s, i, api.Cell{})
	}
	for _, i := range []int{8, -1} {
		_, e := s.Cell(i)
		answers(t, "example 6: Cell", e, api.ErrSlot)
	}
}

// eight: the keys a to h, each with the hash 5.
func eight(t *testing.T, s small.Small) []api.Over {
	t.Helper()
	var over []api.Over
	for i, key := range []string{"a", "b", "c", "d", "e", "f", "g", "h"} {
		puts(t, s, 20+i, key, string(rune('p'+i)), 30+i, api.PutAdded)
		over = append(over, api.Over{Key: key, Hash: 5})
	}
	return over
}

func TestExamplePromote(t *testing.T) {
	a, _, s := example(t, 192+64+384)
	o := ask(t, eight(t, s)...)
	tb, e := s.Promote(o, 1)
	answers(t, "example 7: Promote", e, api.OK)
	for i := range 8 {
		want, _ := s.Cell(i)
		if want.Kind != api.CellFull || want.Tag != 20+i {
			t.Fatalf("example 7: slot %d of the small one holds %#v", i, want)
		}
		want.Tag = 5
		if c, e := tb.Cell(i); c != want || e != api.OK {
			t.Errorf("example 7: slot %d of the table holds %#v, error %d, want %#v", i, c, e, want)
		}
	}
	if st, e := tb.Stat(); st.Used != 8 || st.Left != 6 || st.Slots != 16 || st.Depth != 0 || e != api.OK {
		t.Errorf("example 7: the table's Stat = %+v, error %d", st, e)
	}
	statIs(t, s, api.SmallStat{Used: 8})
	if a.Live() != 640 {
		t.Errorf("example 7: live is %d, want 640", a.Live())
	}

	a, _, s = example(t, 192+64+384-1)
	if _, e := s.Promote(ask(t, eight(t, s)...), 1); e != api.ErrMemory || a.Live() != 192 {
		t.Errorf("example 8: Promote: error %d, live %d", e, a.Live())
	}
}

func TestExamplePinAndRetire(t *testing.T) {
	_, _, s := example(t, 1024)
	for _, c := range []struct {
		by, want int
		e        api.Errno
	}{{1, 1, api.OK}, {1, 2, api.OK}, {-3, 0, api.ErrPins}} {
		if n, e := s.Pin(c.by); n != c.want || e != c.e {
			t.Errorf("example 9: Pin(%d) = %d, error %d, want %d, error %d", c.by, n, e, c.want, c.e)
		}
	}
	answers(t, "example 9: Retire(-7)", s.Retire(-7), api.OK)
	statIs(t, s, api.SmallStat{Pins: 2, Next: -7, Retired: true})
	answers(t, "example 9: SetNext(0)", s.SetNext(0), api.OK)
	statIs(t, s, api.SmallStat{Pins: 2, Retired: true})
}

func TestExampleFree(t *testing.T) {
	a, l, s := example(t, 1024)
	small.New(a, l)
	answers(t, "example 10: Free", s.Free(), api.OK)
	if a.Live() != 192 {
		t.Errorf("example 10: live is %d, want 192", a.Live())
	}
	for _, c := range []call{named("Stat"), named("Find"), named("Pin"), named("Promote"), named("Free")} {
		refuses(t, a, c, s, args{tag: -1, n: -1, o: ask(t)}, api.ErrDead)
	}
}
