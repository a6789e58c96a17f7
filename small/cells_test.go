package small_test

import (
	"iter"
	"math"
	"testing"

	"larder/api"
	"larder/small"
)

// TestCellByNumber: each slot, and what is none. (The bench holds each slot's cell against the plain one's.)
func TestCellByNumber(t *testing.T) {
	for _, n := range fillings {
		benches(t, func(b *bench) {
			b.fill(n)
			b.holds("P11.6: Cell")
			for _, i := range []int{math.MinInt, math.MinInt + 1, -1 << 32, -8, -1, 8, 9, 16, 1 << 32, 1<<32 + 1, 1 << 61, math.MaxInt} {
				b.refuses("Cell", args{n: i}, api.ErrSlot)
			}
		})
	}
}

// listed: all that a range over what Cells answered gives.
func listed(cells iter.Seq2[int, api.Cell]) []given {
	var l []given
	for i, c := range cells {
		l = append(l, given{i, c})
	}
	return l
}

// TestCellsToTheEnd: none to eight cells, by one answer of Cells, again and again.
func TestCellsToTheEnd(t *testing.T) {
	benches(t, func(b *bench) {
		cells := b.s.Cells()
		if cells == nil {
			t.Fatal("P11.6: Cells of an empty one is nil")
		}
		times := func(what string) {
			t.Helper()
			for range 3 {
				same(t, what, listed(cells), b.fulls())
			}
		}
		times("P11.6: Cells of an empty one")
		for i := range 8 {
			b.put(i%3, 1+i, 2, i)
			times("P11.6: Cells, answered ahead of all puts")
		}
		for _, slot := range []int{3, 0, 7, 4} {
			b.drop(slot)
			times("P11.6: Cells, with empty slots between")
		}
	})
}

// TestCellsLeftAtEachPlace: the function is called as it is, so that a cell given behind the last one asked for would be counted.
func TestCellsLeftAtEachPlace(t *testing.T) {
	benches(t, func(b *bench) {
		b.fill(8)
		b.drop(2)
		want := b.fulls()
		cells := b.s.Cells()
		for leave := range want {
			var got []given
			cells(func(i int, c api.Cell) bool {
				got = append(got, given{i, c})
				return len(got) <= leave
			})
			same(t, "P11.6: Cells, left early", got, want[:leave+1])
			same(t, "P11.6: Cells, after being left", listed(cells), want)
		}
		b.holds("P11.6: Cells, left early")
	})
}

func TestCellsWithinItself(t *testing.T) {
	benches(t, func(b *bench) {
		b.fill(8)
		b.drop(5)
		want := b.fulls()
		cells := b.s.Cells()
		var outer []given
		for i, c := range cells {
			outer = append(outer, given{i, c})
			same(t, "P11.6: Cells within itself", listed(cells), want)
			for range cells {
				break
			}
		}
		same(t, "P11.6: Cells around itself", outer, want)
	})
}

// TestCellsByTwoInTurn: the second range begins behind a change that the first one must not see.
func TestCellsByTwoInTurn(t *testing.T) {
	b := set(t, descriptors[2])
	b.fill(6)
	cells := b.s.Cells()
	before := b.fulls()
	first, stopFirst := iter.Pull2(cells)
	defer stopFirst()
	i, c, _ := first()
	got := []given{{i, c}}
	b.put(9, 200, 7, 70)
	b.drop(1)
	second, stopSecond := iter.Pull2(cells)
	defer stopSecond()
	var later []given
	for {
		i, c, ok := first()
		j, d, more := second()
		if ok {
			got = append(got, given{i, c})
		}
		if more {
			later = append(later, given{j, d})
		}
		if !ok && !more {
			break
		}
	}
	same(t, "P11.6: Cells, begun ahead of a put and a delete", got, before)
	same(t, "P11.6: Cells, begun behind them", later, b.fulls())
}

// TestCellsAreThoseOfTheBeginning: bodies that put, replace, delete and retire.
func TestCellsAreThoseOfTheBeginning(t *testing.T) {
	bodies := map[string]func(b *bench, g given, n int){
		"puts a new key": func(b *bench, g given, n int) { b.put(n, 150+n, 9, n) },
		"replaces all elems": func(b *bench, g given, n int) {
			for _, f := range b.fulls() {
				b.putText(f.cell.Tag, f.cell.Key, text(b.l.Elem, 99+n), 0)
			}
		},
		"deletes the cell": func(b *bench, g given, n int) { b.drop(g.slot) },
		"deletes all others": func(b *bench, g given, n int) {
			for _, f := range b.fulls() {
				if f.slot != g.slot {
					b.drop(f.slot)
				}
			}
		},
		"deletes the cell and puts another one there": func(b *bench, g given, n int) {
			b.drop(g.slot)
			b.put(77, 150+n, 9, n)
		},
		"retires it": func(b *bench, g given, n int) {
			b.s.Retire(n)
			b.p.kind, b.p.next = api.KindSmallRetired, n
		},
	}
	for name, body := range bodies {
		for _, n := range []int{5, 8} {
			benches(t, func(b *bench) {
				b.fill(n)
				b.drop(2)
				want := b.fulls()
				var got []given
				for i, c := range b.s.Cells() {
					body(b, given{i, c}, len(got))
					got = append(got, given{i, c})
				}
				same(t, "P11.6: Cells, whose body "+name, got, want)
				b.holds("P11.6: behind a range whose body " + name)
			})
		}
	}
}

// TestCellsWhoseBodyFrees: it dies at the first cell, and its block is taken and written by another; the range goes on with what was there.
func TestCellsWhoseBodyFrees(t *testing.T) {
	benches(t, func(b *bench) {
		b.fill(8)
		want := b.fulls()
		cells := b.s.Cells()
		var got []given
		for i, c := range cells {
			if len(got) == 0 {
				answers(t, "P11.9: Free", b.s.Free(), api.OK)
			}
			if len(got) == 1 {
				again, e := small.New(b.a, b.l)
				answers(t, "P11.1: New", e, api.OK)
				again.Put(5, text(b.l.Key, 5), text(b.l.Elem, 5), 5)
				again.Free()
			}
			got = append(got, given{i, c})
		}
		same(t, "P11.6: Cells, whose body frees", got, want)
		for i := range cells {
			t.Fatalf("P11.6: Cells of a dead one gives slot %d", i)
		}
	})
}

// TestCellsOfADeadOne: it gives nothing, till there is one again at that place.
func TestCellsOfADeadOne(t *testing.T) {
	a, l := open(t, 4096), lay(t, descriptors[0])
	s, e := small.New(a, l)
	answers(t, "New", e, api.OK)
	s.Put(5, "a", "x", 1)
	alive := s.Cells()
	answers(t, "Free", s.Free(), api.OK)
	dead := s.Cells()
	same(t, "Cells of a dead one, asked for while it was alive", listed(alive), nil)
	same(t, "Cells of a dead one", listed(dead), nil)
	again, e := small.New(a, l)
	answers(t, "New", e, api.OK)
	again.Put(6, "b", "y", 2)
	want := []given{{0, api.Cell{Kind: api.CellFull, Tag: 6, Key: "b", Elem: "y", Birth: 2}}}
	same(t, "P11.6: Cells where one was freed", listed(alive), want)
	same(t, "P11.6: Cells where one was freed", listed(dead), want)
}
