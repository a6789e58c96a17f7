package swiss_test

import (
	"slices"
	"testing"

	"larder/api"
	"larder/arena"
	"larder/swiss"
	"larder/table"
)

// example: the chapter's layout and letters, in a new arena.
func example(t *testing.T, limit, hint int) (*arena.Arena, swiss.Map, api.Errno) {
	t.Helper()
	var over []api.Over
	for i := range 26 {
		over = append(over, api.Over{Key: string(rune('a' + i)), Hash: uint64(i)})
	}
	a := open(t, limit)
	m, e := swiss.Make(a, lay(t, [5]int{1, 1, 1, 1, 16}), ask(t, over...), 7, hint)
	return a, m, e
}

func puts(t *testing.T, m swiss.Map, keys string) {
	t.Helper()
	for _, k := range keys {
		if added, e := m.Put(string(k), "x"); !added || e != api.OK {
			t.Fatalf("Put(%q) = %v, error %d", k, added, e)
		}
	}
}

func stat(t *testing.T, what string, m swiss.Map, want api.MapStat) {
	t.Helper()
	if st, e := m.Stat(); st != want || e != api.OK {
		t.Fatalf("%s: Stat = %+v, error %d, want %+v", what, st, e, want)
	}
}

func looksAt(t *testing.T, what string, m swiss.Map, key string, want int) {
	t.Helper()
	if n, e := m.Probes(key); n != want || e != api.OK {
		t.Fatalf("%s: Probes(%q) = %d, error %d, want %d", what, key, n, e, want)
	}
}

func hasSlots(t *testing.T, what string, m swiss.Map, want int) {
	t.Helper()
	if n, e := m.Slots(); n != want || e != api.OK {
		t.Fatalf("%s: Slots = %d, error %d, want %d", what, n, e, want)
	}
}

func birthOf(t *testing.T, what string, m swiss.Map, key string, want int) {
	t.Helper()
	if c, e := m.Cell(key); c.Birth != want || c.Kind != api.CellFull || e != api.OK {
		t.Fatalf("%s: Cell(%q) = %+v, error %d, want the birth %d", what, key, c, e, want)
	}
}

// TestExamples1To6: one map from its making to its clearing.
func TestExamples1To6(t *testing.T) {
	a, m, e := example(t, 65536, 0)
	answers(t, "example 1: Make", e, api.OK)
	if m.Off() != 16 || a.Live() != 64 {
		t.Errorf("example 1: the header lies at %d, live %d", m.Off(), a.Live())
	}
	stat(t, "example 1", m, api.MapStat{Seed: 7, Depth: -1})
	hasSlots(t, "example 1", m, 0)
	looksAt(t, "example 1", m, "a", 0)
	if s, yes, e := m.Get("a"); s != "" || yes || e != api.OK {
		t.Errorf("example 1: Get = %q, %v, error %d", s, yes, e)
	}
	_, _, e = m.Get("ab")
	answers(t, "example 1: Get(ab)", e, api.ErrKeyWidth)

	puts(t, m, "a")
	stat(t, "example 2", m, api.MapStat{Used: 1, Seed: 7, Births: 1, Root: 80, Depth: -1})
	hasSlots(t, "example 2", m, 8)
	looksAt(t, "example 2", m, "b", 1)
	if added, e := m.Put("a", "y"); added || e != api.OK {
		t.Errorf("example 2: Put = %v, error %d", added, e)
	}
	if c, e := m.Cell("a"); c != (api.Cell{Kind: api.CellFull, Key: "a", Elem: "y"}) || e != api.OK {
		t.Errorf("example 2: Cell = %+v, error %d", c, e)
	}
	_, e = m.Put("ab", "")
	answers(t, "example 2: Put(ab)", e, api.ErrKeyWidth)
	_, e = m.Put("b", "")
	answers(t, "example 2: Put(b)", e, api.ErrElemWidth)

	puts(t, m, "bcdefgh")
	stat(t, "example 3: eight keys", m, api.MapStat{Used: 8, Seed: 7, Births: 8, Root: 80, Depth: -1})
	puts(t, m, "i")
	stat(t, "example 3", m, api.MapStat{Used: 9, Seed: 7, Births: 9, Root: 720, Depth: 0})
	d, _, _ := m.Dir()
	off, _ := d.Entry(0)
	st, _ := table.At(a, m.Layout(), off).Stat()
	if _, e := a.Size(80); off != 272 || st.Groups != 336 || e != api.ErrBlock {
		t.Errorf("example 3: the table lies at %d, its groups at %d; the small block: error %d", off, st.Groups, e)
	}
	hasSlots(t, "example 3", m, 16)
	looksAt(t, "example 3", m, "i", 2)

	puts(t, m, "jklmn")
	hasSlots(t, "example 4: 14 keys", m, 16)
	puts(t, m, "o")
	if st, e := m.Stat(); st.Depth != 6 || st.Used != 15 || e != api.OK {
		t.Errorf("example 4: %+v, error %d", st, e)
	}
	hasSlots(t, "example 4", m, 128)

	for _, want := range []bool{true, false} {
		if was, e := m.Delete("a"); was != want || e != api.OK {
			t.Errorf("example 5: Delete = %v, error %d, want %v", was, e, want)
		}
	}
	if n, e := m.Len(); n != 14 || e != api.OK {
		t.Errorf("example 5: Len = %d, error %d", n, e)
	}
	puts(t, m, "a")
	birthOf(t, "example 5", m, "a", 15)

	answers(t, "example 6: Clear", m.Clear(9), api.OK)
	stat(t, "example 6", m, api.MapStat{Seed: 9, Births: 16, Epoch: 1, Depth: -1})
	if a.Live() != 64 {
		t.Errorf("example 6: live %d", a.Live())
	}
	puts(t, m, "a")
	birthOf(t, "example 6", m, "a", 16)
}

// TestExample4Directory: the first split alone: the widened directory lies at 736, the old one is free, and both stay so where the low table is refused.
func TestExample4Directory(t *testing.T) {
	a, m, _ := example(t, 64+192+448+16+447, 0)
	puts(t, m, "abcdefghijklmn")
	added, e := m.Put("o", "x")
	if st, _ := m.Stat(); added || e != api.ErrMemory || st.Root != 736 || st.Depth != 1 || st.Used != 14 {
		t.Errorf("example 4: Put = %v, error %d, %+v", added, e, st)
	}
	if _, e := a.Size(720); e != api.ErrBlock {
		t.Errorf("example 4: the old directory: error %d", e)
	}
}

func TestExample7(t *testing.T) {
	for _, c := range []struct{ hint, tables, slots, depth int }{{9, 1, 16, 0}, {15, 2, 32, 1}, {4096, 64, 8192, 6}} {
		_, m, e := example(t, api.MaxLimit, c.hint)
		answers(t, "example 7: Make", e, api.OK)
		d, wide, _ := m.Dir()
		n := 0
		for range d.Tables() {
			n++
		}
		if !wide || n != c.tables || d.Depth() != c.depth {
			t.Errorf("example 7: hint %d: %d tables, depth %d", c.hint, n, d.Depth())
		}
		hasSlots(t, "example 7", m, c.slots)
	}
	for _, hint := range []int{4097, -1} {
		_, _, e := example(t, 65536, hint)
		answers(t, "example 7: Make", e, api.ErrHint)
	}
}

func TestExample8(t *testing.T) {
	_, m, e := example(t, 100, 0)
	answers(t, "example 8: Make", e, api.OK)
	added, e := m.Put("a", "x")
	n, f := m.Len()
	if added || e != api.ErrMemory || n != 0 || f != api.OK {
		t.Errorf("example 8: Put = %v, error %d, Len = %d, error %d", added, e, n, f)
	}
	stat(t, "example 8", m, api.MapStat{Seed: 7, Depth: -1})
}

func TestExample9(t *testing.T) {
	a, m, _ := example(t, 65536, 0)
	puts(t, m, "abcdefgh")
	answers(t, "example 9: Pin(80)", m.Pin(80), api.OK)
	answers(t, "example 9: Pin(81)", m.Pin(81), api.ErrBlock)
	puts(t, m, "i")
	if l, e := m.Retired(); !slices.Equal(l, []int{80}) || e != api.OK {
		t.Errorf("example 9: Retired = %v, error %d", l, e)
	}
	answers(t, "example 9: Unpin(80)", m.Unpin(80), api.OK)
	if l, e := m.Retired(); len(l) != 0 || e != api.OK {
		t.Errorf("example 9: Retired = %v, error %d", l, e)
	}
	if _, e := a.Size(80); e != api.ErrBlock {
		t.Errorf("example 9: the small block: error %d", e)
	}
	answers(t, "example 9: Unpin(80) again", m.Unpin(80), api.ErrBlock)
}

func TestExamples10And11(t *testing.T) {
	a, m, _ := example(t, 65536, 0)
	puts(t, m, "abcdefghi")
	c, e := m.Clone()
	answers(t, "example 10: Clone", e, api.OK)
	d, _, _ := c.Dir()
	off, _ := d.Entry(0)
	tb := table.At(a, c.Layout(), off)
	for i, k := range "abcdefghi" {
		if x, e := tb.Cell(i); x != (api.Cell{Kind: api.CellFull, Tag: i, Key: string(k), Elem: "x", Birth: i}) || e != api.OK {
			t.Errorf("example 10: slot %d: %+v, error %d", i, x, e)
		}
	}
	stat(t, "example 10", c, api.MapStat{Used: 9, Seed: 7, Births: 9, Root: d.Off(), Depth: 0})
	if c.Off() != 736 || off != 800 || d.Off() != 1248 {
		t.Errorf("example 10: the header lies at %d, the table at %d, the directory at %d", c.Off(), off, d.Off())
	}
	puts(t, c, "j")
	if n, e := m.Len(); n != 9 || e != api.OK {
		t.Errorf("example 10: Len = %d, error %d", n, e)
	}

	answers(t, "example 11: Release", m.Release(), api.OK)
	answers(t, "example 11: Release", c.Release(), api.OK)
	if a.Live() != 0 {
		t.Errorf("example 11: live %d", a.Live())
	}
	_, e = m.Len()
	answers(t, "example 11: Len", e, api.ErrDead)
	_, _, e = m.Get("ab")
	answers(t, "example 11: Get(ab)", e, api.ErrDead)
	answers(t, "example 11: Release", m.Release(), api.ErrDead)
}
