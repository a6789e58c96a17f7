package table_test

import (
	"iter"
	"slices"
	"testing"

	"larder/api"
	"larder/table"
)

// TestCellsToTheEnd: an empty table, one of all kinds of cells, a full one; again and again.
func TestCellsToTheEnd(t *testing.T) {
	benches(t, func(b *bench) {
		cells := b.tb.Cells()
		if cells == nil {
			t.Fatal("P8.11: Cells of an empty table is nil")
		}
		times := func(what string) {
			t.Helper()
			for range 3 {
				var got []given
				for i, c := range cells {
					got = append(got, given{i, c})
				}
				same(t, what, got, b.fulls())
			}
		}
		times("P8.11: Cells of an empty table")
		b.crowd()
		times("P8.11: Cells, answered ahead of all puts")
		for i := 0; b.p.left > 0; i++ {
			b.put(hash(uint64(i), 9), 100+i, 1, i)
		}
		times("P8.11: Cells of a full table")
	})
}

// TestCellsLeftAtEachPlace: the function is called as it is, so that a cell given behind the last one asked for would be counted.
func TestCellsLeftAtEachPlace(t *testing.T) {
	benches(t, func(b *bench) {
		b.crowd()
		want := b.fulls()
		cells := b.tb.Cells()
		for leave := range want {
			var got []given
			cells(func(i int, c api.Cell) bool {
				got = append(got, given{i, c})
				return len(got) <= leave
			})
			same(t, "P8.11: Cells, left early", got, want[:leave+1])
		}
		same(t, "P8.11: Cells, after being left", gone(b.tb), want)
	})
}

func TestCellsWithinItself(t *testing.T) {
	b := set(t, descriptors[3], 16, 0)
	b.crowd()
	want := b.fulls()
	cells := b.tb.Cells()
	var outer []given
	for i, c := range cells {
		outer = append(outer, given{i, c})
		var inner []given
		for j, d := range cells {
			inner = append(inner, given{j, d})
		}
		same(t, "P8.11: Cells within itself", inner, want)
		for range cells {
			break
		}
	}
	same(t, "P8.11: Cells around itself", outer, want)
}

// TestCellsByTwoInTurn: the second range begins behind a change that the first one must not see.
func TestCellsByTwoInTurn(t *testing.T) {
	b := set(t, descriptors[2], 16, 0)
	b.crowd()
	cells := b.tb.Cells()
	before := b.fulls()
	first, stopFirst := iter.Pull2(cells)
	defer stopFirst()
	i, c, _ := first()
	got := []given{{i, c}}
	b.put(hash(1, 3), 200, 7, 70)
	b.drop(before[1].slot)
	second, stopSecond := iter.Pull2(cells)
	defer stopSecond()
	var later []given
	for {
		i, c, ok := first()
		j, d, more := second()
		if ok {
			got = append(got, given{i, c})
		}
		if more {
			later = append(later, given{j, d})
		}
		if !ok && !more {
			break
		}
	}
	same(t, "P8.11: Cells, begun ahead of a put and a delete", got, before)
	same(t, "P8.11: Cells, begun behind them", later, b.fulls())
}

// TestCellsAreThoseOfTheBeginning: bodies that put, replace, delete, retire and free.
func TestCellsAreThoseOfTheBeginning(t *testing.T) {
	bodies := map[string]func(b *bench, g given, n int){
		"puts a new key": func(b *bench, g given, n int) { b.put(hash(uint64(n), n), 150+n, 9, n) },
		"replaces all elems": func(b *bench, g given, n int) {
			for _, f := range b.fulls() {
				b.putText(b.p.hashes[f.slot], f.cell.Key, text(b.l.Elem, 99), 0)
			}
		},
		"deletes the cell": func(b *bench, g given, n int) { b.drop(g.slot) },
		"deletes all others": func(b *bench, g given, n int) {
			for _, f := range b.fulls() {
				if f.slot != g.slot {
					b.drop(f.slot)
				}
			}
		},
		"retires it": func(b *bench, g given, n int) {
			b.tb.Retire(n)
			b.p.kind, b.p.next = api.KindTableRetired, n
		},
	}
	for name, body := range bodies {
		benches(t, func(b *bench) {
			b.crowd()
			want := b.fulls()
			var got []given
			for i, c := range b.tb.Cells() {
				body(b, given{i, c}, len(got))
				got = append(got, given{i, c})
			}
			same(t, "P8.11: Cells, whose body "+name, got, want)
			b.holds("P8.11: behind a range whose body " + name)
		})
	}
}

// TestCellsWhoseBodyFrees: the table dies at the first cell, and its blocks are taken and written by others; the range goes on with what was there.
func TestCellsWhoseBodyFrees(t *testing.T) {
	benches(t, func(b *bench) {
		b.crowd()
		want := b.fulls()
		cells := b.tb.Cells()
		var got []given
		for i, c := range cells {
			if len(got) == 0 {
				answers(t, "P8.14: Free", b.tb.Free(), api.OK)
			}
			if len(got) == 1 {
				again, e := table.New(b.a, b.l, len(b.p.cells), 0)
				answers(t, "P8.1: New", e, api.OK)
				again.Put(5, text(b.l.Key, 5), text(b.l.Elem, 5), 5)
				again.Free()
			}
			got = append(got, given{i, c})
		}
		same(t, "P8.11: Cells, whose body frees", got, want)
		for i := range cells {
			t.Fatalf("P8.11: Cells of a dead table gives slot %d", i)
		}
	})
}

// TestCellsOfADeadTable: what Cells answers of a dead one is not nil; it gives nothing, till there is a table again.
func TestCellsOfADeadTable(t *testing.T) {
	a, l := open(t, 4096), lay(t, descriptors[0])
	tb, e := table.New(a, l, 16, 0)
	answers(t, "New", e, api.OK)
	puts(t, tb, 5, "a", "x", 1, api.PutAdded)
	alive := tb.Cells()
	answers(t, "Free", tb.Free(), api.OK)
	dead := tb.Cells()
	if dead == nil {
		t.Fatal("P8.11: Cells of a dead table is nil")
	}
	for _, cells := range []iter.Seq2[int, api.Cell]{alive, dead} {
		for i := range cells {
			t.Fatalf("Cells of a dead table gives slot %d", i)
		}
	}
	again, e := table.New(a, l, 16, 0)
	answers(t, "New", e, api.OK)
	if again != tb {
		t.Fatalf("P8.1: the new table lies at %d, the freed one lay at %d", again.Off(), tb.Off())
	}
	puts(t, again, hash(1, 6), "b", "y", 2, api.PutAdded)
	want := []given{{8, api.Cell{Kind: api.CellFull, Tag: 6, Key: "b", Elem: "y", Birth: 2}}}
	for _, cells := range []iter.Seq2[int, api.Cell]{alive, dead} {
		var got []given
		for i, c := range cells {
			got = append(got, given{i, c})
		}
		same(t, "P8.11: Cells of a table where one was freed", got, want)
	}
}

// TestCellsRise: the numbers of the slots rise, whatever the order of the puts was.
func TestCellsRise(t *testing.T) {
	b := set(t, descriptors[5], 64, 0)
	for i := range 40 {
		b.put(hash(uint64(7-i%8), i), 1+i, 2, i)
	}
	slots := slotsOf(gone(b.tb))
	if len(slots) != 40 || !slices.IsSorted(slots) || slots[0] != 0 || slots[39] != 60 {
		t.Errorf("P8.11: the slots are %v", slots)
	}
}
