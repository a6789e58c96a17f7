package grow_test

import (
	"testing"

	"larder/api"
	"larder/arena"
	"larder/grow"
	"larder/oracle"
	"larder/table"
)

// letters: the chapter's oracle.
func letters(t *testing.T) *oracle.Oracle {
	t.Helper()
	var over []api.Over
	for i := range 26 {
		over = append(over, api.Over{Key: string(rune('a' + i)), Hash: uint64(i)})
	}
	return ask(t, over...)
}

// example: the chapter's table, in a new arena with that limit, with these keys and the births from 0 on.
func example(t *testing.T, limit, slots, depth int, o *oracle.Oracle, keys string) (*arena.Arena, table.Table) {
	t.Helper()
	a, l := open(t, limit), lay(t, descriptors[0])
	tb, e := table.New(a, l, slots, depth)
	answers(t, "table.New", e, api.OK)
	for i, k := range keys {
		if n, e := tb.Put(o.Hash(0, string(k)), string(k), "", i); n != api.PutAdded || e != api.OK {
			t.Fatalf("Put of %q = %d, error %d", k, n, e)
		}
	}
	return a, tb
}

func takesOut(t *testing.T, tb table.Table, o *oracle.Oracle, key string) {
	t.Helper()
	if was, e := tb.Delete(o.Hash(0, key), key); !was || e != api.OK {
		t.Fatalf("Delete of %q = %v, error %d", key, was, e)
	}
}

func prunes(t *testing.T, what string, tb table.Table, o *oracle.Oracle, want int) {
	t.Helper()
	if n, e := grow.Prune(tb, o, 0); n != want || e != api.OK {
		t.Fatalf("%s: Prune = %d, error %d, want %d", what, n, e, want)
	}
}

// shows: the header's numbers, and the slots from 0 on, a letter each: its key, "." for an empty one, "!" for a deleted one; behind the last named one all are empty.
func shows(t *testing.T, what string, tb table.Table, slots, used, left, depth int, cells string) {
	t.Helper()
	st, e := tb.Stat()
	want := api.TableStat{Used: used, Slots: slots, Left: left, Depth: depth, Groups: st.Groups}
	if e != api.OK || st != want {
		t.Fatalf("%s: Stat = %+v, error %d, want %+v", what, st, e, want)
	}
	got := ""
	for i := range slots {
		c, _ := tb.Cell(i)
		got += map[int]string{api.CellEmpty: ".", api.CellDeleted: "!", api.CellFull: c.Key}[c.Kind]
	}
	for len(cells) < slots {
		cells += "."
	}
	if got != cells {
		t.Fatalf("%s: the cells are %q, want %q", what, got, cells)
	}
}

// TestExamplesOneToSix: nine keys, a mark that is needed, then not; then the three replacements of the table.
func TestExamplesOneToSix(t *testing.T) {
	o := letters(t)
	_, tb := example(t, 4096, 16, 0, o, "abcdefghi")
	shows(t, "example 1", tb, 16, 9, 5, 0, "abcdefghi")
	prunes(t, "example 1", tb, o, 0)
	takesOut(t, tb, o, "c")
	shows(t, "example 2", tb, 16, 8, 5, 0, "ab!defghi")
	prunes(t, "example 2", tb, o, 0)
	shows(t, "example 2", tb, 16, 8, 5, 0, "ab!defghi")
	takesOut(t, tb, o, "i")
	shows(t, "example 3", tb, 16, 7, 6, 0, "ab!defgh")
	prunes(t, "example 3", tb, o, 1)
	shows(t, "example 3", tb, 16, 7, 7, 0, "ab.defgh")
	prunes(t, "example 3", tb, o, 0)

	renewed, e := grow.Renew(tb, o, 0)
	answers(t, "example 4: Renew", e, api.OK)
	shows(t, "example 4", renewed, 16, 7, 7, 0, "abdefgh")
	for i, birth := range []int{0, 1, 3, 4, 5, 6, 7} {
		if c, _ := renewed.Cell(i); c.Birth != birth {
			t.Errorf("example 4: slot %d has the birth %d, want %d", i, c.Birth, birth)
		}
	}
	shows(t, "example 4: t", tb, 16, 7, 7, 0, "ab.defgh")

	doubled, e := grow.Double(tb, o, 0)
	answers(t, "example 5: Double", e, api.OK)
	shows(t, "example 5", doubled, 32, 7, 21, 0, "abdefgh")

	low, high, e := grow.Split(tb, o, 0)
	answers(t, "example 6: Split", e, api.OK)
	shows(t, "example 6: the low one", low, 16, 7, 7, 1, "abdefgh")
	shows(t, "example 6: the high one", high, 16, 0, 14, 1, "")
	shows(t, "example 6: t", tb, 16, 7, 7, 0, "ab.defgh")
}

func TestExampleSeven(t *testing.T) {
	o := ask(t, api.Over{Key: "a", Hash: 0}, api.Over{Key: "b", Hash: 1 << 63})
	_, tb := example(t, 4096, 16, 0, o, "ab")
	low, high, e := grow.Split(tb, o, 0)
	answers(t, "example 7: Split", e, api.OK)
	shows(t, "example 7: the low one", low, 16, 1, 13, 1, "a")
	shows(t, "example 7: the high one", high, 16, 1, 13, 1, "b")
}

func TestExamplesEightAndNine(t *testing.T) {
	for _, c := range []struct{ used, slots, depth, limit, want int }{
		{7, 16, 0, 16, 1},
		{8, 16, 0, 16, 3},
		{8, 16, 0, 32, 2},
		{8, 16, 6, 16, 2},
		{7, 24, 0, 16, 0},
		{15, 16, 0, 16, 0},
		{7, 16, 7, 16, 0},
		{-1, 16, 0, 16, 0},
		{7, 8, 0, -5, 3},
		{3, 8, 0, -5, 1},
	} {
		if n := grow.Choose(api.TableStat{Used: c.used, Slots: c.slots, Depth: c.depth}, c.limit); n != c.want {
			t.Errorf("examples 8 and 9: Choose({Used %d, Slots %d, Depth %d}, %d) = %d, want %d", c.used, c.slots, c.depth, c.limit, n, c.want)
		}
	}
}

func TestExampleTen(t *testing.T) {
	o := letters(t)
	a, tb := example(t, 4096, 16, 0, o, "abc")
	if a.Live() != 448 {
		t.Fatalf("example 10: live is %d, want 448", a.Live())
	}
	_, _, e := grow.Split(tb, o, 0)
	answers(t, "example 10: Split", e, api.OK)
	if a.Live() != 448+896 {
		t.Errorf("example 10: live is %d, want %d", a.Live(), 448+896)
	}

	a, tb = example(t, 1343, 16, 0, o, "abc")
	low, high, e := grow.Split(tb, o, 0)
	if e != api.ErrMemory || low != (table.Table{}) || high != (table.Table{}) {
		t.Errorf("example 10: Split under 1343: error %d, want %d", e, api.ErrMemory)
	}
	if a.Live() != 448 || a.End() != 16+896 {
		t.Errorf("example 10: live is %d, the end %d, want 448 and %d", a.Live(), a.End(), 16+896)
	}
	next, e := table.New(a, tb.Layout(), 16, 0)
	answers(t, "example 10: table.New", e, api.OK)
	if st, _ := next.Stat(); next.Off() != 464 || st.Groups != 528 {
		t.Errorf("example 10: the next table is at %d, its groups at %d, want 464 and 528", next.Off(), st.Groups)
	}
	shows(t, "example 10: the next table", next, 16, 0, 14, 0, "")
}

func TestExampleEleven(t *testing.T) {
	o := letters(t)
	_, tb := example(t, 4096, 16, 0, o, "abcdefghi")
	answers(t, "Free", tb.Free(), api.OK)
	for _, c := range calls {
		refusesAll(t, "example 11", c, tb, o, api.ErrDead)
	}
}
