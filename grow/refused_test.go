package grow_test

import (
	"fmt"
	"testing"

	"larder/api"
	"larder/arena"
	"larder/grow"
	"larder/layout"
	"larder/oracle"
	"larder/table"
)

// bytesOf: what a table of that layout takes.
func bytesOf(l api.Layout, slots int) int { return 64 + arena.Class(slots/8*l.Group) }

// under: a table with three keys, alone in an arena with that limit.
func under(t *testing.T, limit int, d [5]int, slots, depth int, o *oracle.Oracle) (*arena.Arena, table.Table) {
	t.Helper()
	a, l := open(t, limit), lay(t, d)
	tb, e := table.New(a, l, slots, depth)
	answers(t, "table.New", e, api.OK)
	for i := 1; i <= 3; i++ {
		k := text(l.Key, i)
		_, e := tb.Put(o.Hash(0, k), k, text(l.Elem, i), i)
		answers(t, "Put", e, api.OK)
	}
	return a, tb
}

// limitsOf: where a table is there, and a call needs so many bytes more: nothing, the header alone, all but a byte, just all, more.
func limitsOf(there, more int) []int {
	return []int{there, there + 1, there + 63, there + 64, there + 65, there + more - 1, there + more, there + more + 1, there + 2*more}
}

// TestRenewAndDoubleAtEachLimit: done where their table fits, else refused with nothing changed.
func TestRenewAndDoubleAtEachLimit(t *testing.T) {
	o := ask(t)
	for _, d := range descriptors {
		for _, slots := range sizes {
			l := lay(t, d)
			there := bytesOf(l, slots)
			for times, c := range map[int]call{1: named("Renew"), 2: named("Double")} {
				more := bytesOf(l, times*slots)
				for _, limit := range limitsOf(there, more) {
					a, tb := under(t, limit, d, slots, 0, o)
					what := fmt.Sprintf("P9.7: %v, %d slots, limit %d", d, slots, limit)
					if limit < there+more {
						refusesAll(t, what, c, tb, o, api.ErrMemory)
						continue
					}
					_, _, e := c.do(tb, o, 0)
					answers(t, what+": "+c.name, e, api.OK)
					if a.Live() != there+more {
						t.Fatalf("%s: %s: live is %d, want %d", what, c.name, a.Live(), there+more)
					}
				}
			}
		}
	}
}

// TestSplitAtEachLimit: done where both tables fit; where one fits, its blocks are free again, and the next table takes them; where none fits, nothing changes.
func TestSplitAtEachLimit(t *testing.T) {
	o := ask(t)
	for _, d := range descriptors {
		for _, slots := range sizes {
			l := lay(t, d)
			size := bytesOf(l, slots)
			for _, limit := range append(limitsOf(size, size), limitsOf(2*size, size)...) {
				a, tb := under(t, limit, d, slots, 5, o)
				what := fmt.Sprintf("P9.7: %v, %d slots, limit %d", d, slots, limit)
				switch {
				case limit < 2*size:
					refusesAll(t, what, named("Split"), tb, o, api.ErrMemory)
				case limit < 3*size:
					takenBack(t, what, a, tb, o)
				default:
					_, _, e := grow.Split(tb, o, 0)
					answers(t, what+": Split", e, api.OK)
					if a.Live() != 3*size {
						t.Fatalf("%s: Split: live is %d, want %d", what, a.Live(), 3*size)
					}
				}
			}
		}
	}
}

// takenBack: Split is refused at the high table; the low one's blocks are free.
func takenBack(t *testing.T, what string, a *arena.Arena, tb table.Table, o *oracle.Oracle) {
	t.Helper()
	want := look(t, a).copied()
	st, _ := tb.Stat()
	fresh := newPlain(st.Slots, st.Depth)
	off := want.add(tb.Layout(), fresh)
	groups := off + 64
	want.drop(off)
	want.drop(groups)
	for range 3 {
		refuses(t, what, named("Split"), tb, o, api.ErrMemory)
		like(t, what, a, want)
	}
	want.add(tb.Layout(), fresh)
	next, e := table.New(a, tb.Layout(), st.Slots, st.Depth)
	answers(t, what+": table.New", e, api.OK)
	if nst, _ := next.Stat(); next.Off() != off || nst.Groups != groups {
		t.Fatalf("%s: the next table lies at %d, its groups at %d, want %d and %d", what, next.Off(), nst.Groups, off, groups)
	}
	like(t, what+": the next table", a, want)
}

// TestTheLowOneWhereBlocksWereFree: it takes blocks that were free, so that behind the refusal all is as it was, the end too.
func TestTheLowOneWhereBlocksWereFree(t *testing.T) {
	o := letters(t)
	for _, limit := range []int{896, 1000, 1343} {
		a, l := open(t, limit), lay(t, descriptors[0])
		other, e := table.New(a, l, 16, 0)
		answers(t, "table.New", e, api.OK)
		tb, e := table.New(a, l, 16, 2)
		answers(t, "table.New", e, api.OK)
		answers(t, "Free", other.Free(), api.OK)
		refusesAll(t, "P9.7: with free blocks", named("Split"), tb, o, api.ErrMemory)
		next, e := table.New(a, l, 16, 0)
		answers(t, "table.New", e, api.OK)
		if next != other {
			t.Errorf("P9.7: the next table lies at %d, want %d", next.Off(), other.Off())
		}
	}
}

// TestSplitAtTheGreatestDepth: refused, whether there is memory or not; the other calls are not.
func TestSplitAtTheGreatestDepth(t *testing.T) {
	o := letters(t)
	for _, limit := range []int{448, 1343, 1344, 1 << 16} {
		_, tb := example(t, limit, 16, 6, o, "abc")
		refusesAll(t, "P9.7: depth 6", named("Split"), tb, o, api.ErrDepth)
	}
	_, tb := example(t, 1<<16, 16, 6, o, "abc")
	renewed, e := grow.Renew(tb, o, 0)
	answers(t, "P9.5: Renew at depth 6", e, api.OK)
	shows(t, "P9.5: renewed at depth 6", renewed, 16, 3, 11, 6, "abc")
	doubled, e := grow.Double(tb, o, 0)
	answers(t, "P9.5: Double at depth 6", e, api.OK)
	shows(t, "P9.5: doubled at depth 6", doubled, 32, 3, 25, 6, "abc")
}

// TestTheGreatestTables: of 32768 slots there is one, and its groups of 136 bytes take 786432; twice as many slots take more than a block may have.
func TestTheGreatestTables(t *testing.T) {
	o := ask(t)
	const size = 64 + 786432
	a, tb := under(t, api.MaxLimit, descriptors[0], 32768, 0, o)
	if a.Live() != size {
		t.Fatalf("live is %d, want %d", a.Live(), size)
	}
	refusesAll(t, "P9.7: 32768 slots", named("Double"), tb, o, api.ErrMemory)
	takenBack(t, "P9.7: 32768 slots", a, tb, o)
}

// TestTwiceTheSlotsAboveMaxSlots: no arena has a table of 65536 slots (chapter 8, example 10), so its header is laid by hand here.
func TestTwiceTheSlotsAboveMaxSlots(t *testing.T) {
	o := letters(t)
	for depth := range 7 {
		a, l := open(t, api.MaxLimit), lay(t, descriptors[0])
		offs, e := a.AllocAll(64, layout.Groups(l, 16))
		answers(t, "AllocAll", e, api.OK)
		p := &plain{kind: 2, left: 57344, depth: depth, cells: make([]api.Cell, 65536)}
		answers(t, "Write", a.Write(offs[0], p.header(offs[1])), api.OK)
		tb := table.At(a, l, offs[0])
		refusesAll(t, "P9.7: 65536 slots", named("Double"), tb, o, api.ErrSlots)
		refusesAll(t, "P9.7: 65536 slots", named("Renew"), tb, o, api.ErrMemory)
		want := api.ErrMemory
		if depth == 6 {
			want = api.ErrDepth
		}
		refusesAll(t, "P9.7: 65536 slots", named("Split"), tb, o, want)
	}
}
