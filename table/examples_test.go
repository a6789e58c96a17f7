package table_test

import (
	"testing"

	"larder/api"
	"larder/arena"
	"larder/table"
)

// example: the chapter's layout, and a table in a new arena with limit 4096.
func example(t *testing.T, slots int) (*arena.Arena, api.Layout, table.Table) {
	t.Helper()
	a, l := open(t, 4096), lay(t, [5]int{1, 1, 1, 1, 16})
	tb, e := table.New(a, l, slots, 0)
	answers(t, "New", e, api.OK)
	return a, l, tb
}

func puts(t *testing.T, tb table.Table, h uint64, key, elem string, birth, want int) {
	t.Helper()
	if n, e := tb.Put(h, key, elem, birth); n != want || e != api.OK {
		t.Fatalf("Put(%d, %q, %q, %d) = %d, error %d, want %d", h, key, elem, birth, n, e, want)
	}
}

func isIn(t *testing.T, tb table.Table, h uint64, key string, want int) {
	t.Helper()
	if n, e := tb.Find(h, key); n != want || e != api.OK {
		t.Fatalf("Find(%d, %q) = %d, error %d, want %d", h, key, n, e, want)
	}
}

func looksAt(t *testing.T, tb table.Table, h uint64, key string, want int) {
	t.Helper()
	if n, e := tb.Probes(h, key); n != want || e != api.OK {
		t.Fatalf("Probes(%d, %q) = %d, error %d, want %d", h, key, n, e, want)
	}
}

func takesOut(t *testing.T, tb table.Table, h uint64, key string) {
	t.Helper()
	if was, e := tb.Delete(h, key); !was || e != api.OK {
		t.Fatalf("Delete(%d, %q) = %v, error %d, want true", h, key, was, e)
	}
}

func cellIs(t *testing.T, tb table.Table, slot int, want api.Cell) {
	t.Helper()
	if c, e := tb.Cell(slot); c != want || e != api.OK {
		t.Fatalf("Cell(%d) = %#v, error %d, want %#v", slot, c, e, want)
	}
}

func counts(t *testing.T, tb table.Table, used, left int) {
	t.Helper()
	if st, e := tb.Stat(); st.Used != used || st.Left != left || e != api.OK {
		t.Fatalf("Stat = %+v, error %d, want used %d, left %d", st, e, used, left)
	}
}

func TestExampleNew(t *testing.T) {
	a, l, tb := example(t, 8)
	if st, e := tb.Stat(); tb.Off() != 16 || st.Groups != 80 || a.Live() != 256 || e != api.OK {
		t.Errorf("example 1: the table is at %d, its groups at %d, live %d, error %d", tb.Off(), st.Groups, a.Live(), e)
	}
	for _, c := range []struct {
		slots, depth int
		want         api.Errno
	}{{12, 0, api.ErrSlots}, {8, 7, api.ErrDepth}, {4, -1, api.ErrSlots}} {
		if tb, e := table.New(a, l, c.slots, c.depth); e != c.want || tb != (table.Table{}) {
			t.Errorf("example 1: New(%d, %d): error %d, want %d", c.slots, c.depth, e, c.want)
		}
	}
}

func TestExampleOneGroup(t *testing.T) {
	_, _, tb := example(t, 8)
	puts(t, tb, 5, "a", "x", 0, api.PutAdded)
	cellIs(t, tb, 0, api.Cell{Kind: api.CellFull, Tag: 5, Key: "a", Elem: "x", Birth: 0})
	puts(t, tb, 5, "a", "y", 9, api.PutReplaced)
	cellIs(t, tb, 0, api.Cell{Kind: api.CellFull, Tag: 5, Key: "a", Elem: "y", Birth: 0})
	isIn(t, tb, 5, "a", 0)
	isIn(t, tb, 6, "a", -1)
	isIn(t, tb, 133, "a", 0)
	for i, key := range []string{"b", "c", "d", "e", "f", "g"} {
		puts(t, tb, uint64(i), key, "z", i+1, api.PutAdded)
	}
	counts(t, tb, 7, 0)
	puts(t, tb, 5, "h", "z", 7, api.PutNoRoom)
	puts(t, tb, 0, "b", "w", 7, api.PutReplaced)
	takesOut(t, tb, 2, "d")
	cellIs(t, tb, 7, api.Cell{})
	cellIs(t, tb, 3, api.Cell{})
	counts(t, tb, 6, 1)
}

func TestExampleRefusals(t *testing.T) {
	_, _, tb := example(t, 8)
	for _, c := range []struct {
		key, elem string
		birth     int
		want      api.Errno
	}{{"ab", "x", 0, api.ErrKeyWidth}, {"a", "", -1, api.ErrElemWidth}, {"a", "x", -1, api.ErrBirth}} {
		if n, e := tb.Put(5, c.key, c.elem, c.birth); n != api.PutNothing || e != c.want {
			t.Errorf("example 4: Put(5, %q, %q, %d) = %d, error %d, want error %d", c.key, c.elem, c.birth, n, e, c.want)
		}
	}
	if n, e := tb.Find(5, ""); n != 0 || e != api.ErrKeyWidth {
		t.Errorf("example 4: Find(5, \"\") = %d, error %d", n, e)
	}
}

func TestExampleTwoGroups(t *testing.T) {
	_, _, tb := example(t, 16)
	for i, key := range []string{"a", "b", "c", "d", "e", "f", "g", "h", "i"} {
		puts(t, tb, 5, key, "x", i, api.PutAdded)
		isIn(t, tb, 5, key, i)
	}
	looksAt(t, tb, 5, "i", 2)
	looksAt(t, tb, 5, "a", 1)
	looksAt(t, tb, 5, "z", 2)
	looksAt(t, tb, 133, "z", 1)

	takesOut(t, tb, 5, "d")
	cellIs(t, tb, 3, api.Cell{Kind: api.CellDeleted})
	counts(t, tb, 8, 5)
	isIn(t, tb, 5, "i", 8)
	puts(t, tb, 7, "q", "x", 9, api.PutAdded)
	isIn(t, tb, 7, "q", 3)
	counts(t, tb, 9, 5)
	puts(t, tb, 135, "r", "x", 10, api.PutAdded)
	isIn(t, tb, 135, "r", 9)
	counts(t, tb, 10, 4)

	takesOut(t, tb, 5, "i")
	cellIs(t, tb, 8, api.Cell{})
	counts(t, tb, 9, 5)
}

func TestExamplePinAndRetire(t *testing.T) {
	_, _, tb := example(t, 8)
	for _, c := range []struct {
		by, want int
		e        api.Errno
	}{{2, 2, api.OK}, {-3, 0, api.ErrPins}, {-2, 0, api.OK}} {
		if n, e := tb.Pin(c.by); n != c.want || e != c.e {
			t.Errorf("example 8: Pin(%d) = %d, error %d, want %d, error %d", c.by, n, e, c.want, c.e)
		}
	}
	answers(t, "Retire(80)", tb.Retire(80), api.OK)
	if st, e := tb.Stat(); !st.Retired || st.Next != 80 || e != api.OK {
		t.Errorf("example 8: behind Retire(80): %+v, error %d", st, e)
	}
	answers(t, "SetNext(-1)", tb.SetNext(-1), api.OK)
	if st, e := tb.Stat(); !st.Retired || st.Next != -1 || e != api.OK {
		t.Errorf("example 8: behind SetNext(-1): %+v, error %d", st, e)
	}
}

func TestExampleFree(t *testing.T) {
	for slots, class := range map[int]int{8: 192, 16: 384} {
		a, _, tb := example(t, slots)
		live := a.Live()
		answers(t, "Free", tb.Free(), api.OK)
		if a.Live() != live-64-class || a.Live() != 0 {
			t.Errorf("example 9: live goes from %d to %d", live, a.Live())
		}
		_, e := tb.Stat()
		answers(t, "example 9: Stat", e, api.ErrDead)
		_, e = tb.Find(5, "ab")
		answers(t, "example 9: Find", e, api.ErrDead)
		answers(t, "example 9: Free again", tb.Free(), api.ErrDead)
	}
}

func TestExampleTooGreatForABlock(t *testing.T) {
	l := lay(t, [5]int{1, 1, 1, 1, 16})
	for _, limit := range []int{0, 63, 64, 4096, api.MaxLimit} {
		_, e := table.New(open(t, limit), l, 65536, 0)
		answers(t, "example 10: New of 65536 slots", e, api.ErrMemory)
	}
}
