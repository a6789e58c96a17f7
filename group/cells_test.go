package group_test

import (
	"fmt"
	"iter"
	"testing"

	"larder/api"
	"larder/group"
)

// TestCellsOfEachSet: the full slots are each of the 256 sets.
func TestCellsOfEachSet(t *testing.T) {
	for _, d := range [][5]int{descriptors[0], descriptors[3], descriptors[7]} {
		b := set(t, d, 21)
		for mask := range 256 {
			for i := range 8 {
				if mask>>i&1 == 1 {
					b.put(i, full(b.l, 127-i, i, mask, mask))
				} else {
					b.put(i, api.Cell{Kind: (mask + i) % 2})
				}
			}
			same(t, fmt.Sprintf("P6.10: Cells of %08b", mask), gone(b.g), b.fulls(0))
		}
		b.holds("P6.10: behind all that was gone through")
	}
}

// change: what a loop's body may do between two steps, at some slot; it tells whether the group is still there.
type change struct {
	name string
	do   func(b *bench, j int) bool
}

var changes = []change{
	{"nothing", func(b *bench, j int) bool { return true }},
	{"Fill", func(b *bench, j int) bool { b.put(j, full(b.l, 99, 70+j, 80+j, 90+j)); return true }},
	{"SetElem", func(b *bench, j int) bool {
		if b.cells[j].Kind == api.CellFull {
			b.cells[j].Elem = text(b.l.Elem, 60+j)
			answers(b.t, "SetElem", b.g.SetElem(j, b.cells[j].Elem), api.OK)
		}
		return true
	}},
	{"Erase to empty", func(b *bench, j int) bool { b.put(j, api.Cell{}); return true }},
	{"Erase to deleted", func(b *bench, j int) bool { b.put(j, api.Cell{Kind: api.CellDeleted}); return true }},
	{"Prune", func(b *bench, j int) bool {
		b.put(j, api.Cell{Kind: api.CellDeleted})
		_, e := b.g.Prune()
		answers(b.t, "Prune", e, api.OK)
		for i, c := range b.cells {
			if c.Kind == api.CellDeleted {
				b.cells[i] = api.Cell{}
			}
		}
		return true
	}},
	{"Reset", func(b *bench, j int) bool {
		answers(b.t, "Reset", b.g.Reset(), api.OK)
		b.cells = [8]api.Cell{}
		return true
	}},
	{"Reset and Fill", func(b *bench, j int) bool {
		answers(b.t, "Reset", b.g.Reset(), api.OK)
		b.cells = [8]api.Cell{}
		b.put(j, full(b.l, 98, 71, 81, 91))
		return true
	}},
	{"a fill of all", func(b *bench, j int) bool {
		for i := range 8 {
			b.put(i, full(b.l, j, 72+i, 82, 92))
		}
		return true
	}},
	{"Free", func(b *bench, j int) bool {
		answers(b.t, "Free", b.a.Free(b.block), api.OK)
		return false
	}},
}

// TestCellsSeeWhatIsToCome: each kind of change, at each slot, behind each step. What lies behind the step is given as it was, what is to come as it is.
func TestCellsSeeWhatIsToCome(t *testing.T) {
	for _, d := range [][5]int{descriptors[1], descriptors[3], descriptors[4]} {
		for _, c := range changes {
			for _, step := range []int{0, 1, 3, 4, 7} {
				for j := range 8 {
					for _, all := range []bool{false, true} {
						changedBehind(t, d, c, step, j, all)
					}
				}
			}
		}
	}
}

// changedBehind: the change is made behind the step that gives that slot (which is full at first), by another value of the same group.
func changedBehind(t *testing.T, d [5]int, c change, step, j int, all bool) {
	t.Helper()
	b := set(t, d, 21)
	b.mix()
	if all {
		for i := range 8 {
			b.put(i, full(b.l, 50+i, i, i, i))
		}
	} else {
		b.put(step, full(b.l, 50, 51, 52, 53))
	}
	var got, want []given
	for _, a := range b.fulls(0) {
		if a.slot <= step {
			want = append(want, a)
		}
	}
	loop := group.At(b.a, b.l, b.block+b.at)
	for i, cell := range loop.Cells() {
		got = append(got, given{i, cell})
		if i == step && c.do(b, j) {
			want = append(want, b.fulls(step+1)...)
		}
	}
	same(t, fmt.Sprintf("P6.10: Cells, with %s at slot %d behind slot %d, all full: %v,", c.name, j, step, all), got, want)
}

// TestCellsSeeEachTurn: the body changes the slot that comes next, at every step.
func TestCellsSeeEachTurn(t *testing.T) {
	benches(t, func(b *bench) {
		b.put(0, full(b.l, 1, 0, 0, 0))
		n := 0
		for i, c := range b.g.Cells() {
			if i != n || c != b.cells[n] {
				t.Fatalf("P6.10: step %d gives slot %d, %#v", n, i, c)
			}
			if n++; n < 8 {
				b.put(n, full(b.l, n, n, n, n))
			}
		}
		if n != 8 {
			t.Fatalf("P6.10: %d steps, each fills the next slot", n)
		}
		n = 0
		for i := range b.g.Cells() {
			n++
			for j := i; j < 8; j++ {
				b.put(j, api.Cell{Kind: j % 2})
			}
		}
		if n != 1 {
			t.Fatalf("P6.10: %d steps, the first takes all that is to come away", n)
		}
		b.holds("P6.10: behind both")
	})
}

// TestCellsBetweenStepsFromOutside: nobody's loop body, but one who takes a step at a time.
func TestCellsBetweenStepsFromOutside(t *testing.T) {
	b := set(t, descriptors[3], 0)
	b.mix()
	next, stop := iter.Pull2(b.g.Cells())
	defer stop()
	for _, want := range []int{0, 2, 3, 7} {
		if i, c, ok := next(); !ok || i != want || c != b.cells[i] {
			t.Fatalf("P6.10: a step gives %d, %#v, %v, want slot %d", i, c, ok, want)
		}
		if want == 0 {
			b.put(2, full(b.l, 3, 4, 5, 6))
			b.put(0, api.Cell{})
		}
		if want == 3 {
			b.put(4, api.Cell{Kind: api.CellDeleted})
			b.put(1, full(b.l, 3, 4, 5, 6))
		}
	}
	if _, _, ok := next(); ok {
		t.Fatal("P6.10: a step behind the last")
	}
}

// TestCellsStopEarly: a loop that stops at each place is given no more, and the same Cells begins anew.
func TestCellsStopEarly(t *testing.T) {
	benches(t, func(b *bench) {
		for _, fill := range []func(){b.mix, func() {
			for i := range 8 {
				b.put(i, full(b.l, i, i, i, i))
			}
		}} {
			fill()
			all := b.fulls(0)
			cells := b.g.Cells()
			for n := 1; n <= len(all); n++ {
				var got []given
				cells(func(i int, c api.Cell) bool {
					got = append(got, given{i, c})
					return len(got) < n
				})
				same(t, fmt.Sprintf("P6.10: Cells that is left at step %d", n), got, all[:n])
			}
			for range 2 {
				var got []given
				for i, c := range cells {
					got = append(got, given{i, c})
				}
				same(t, "P6.10: the same Cells again", got, all)
			}
			b.holds("P6.10: behind loops that stopped early")
		}
	})
}

// TestCellsWithinItself: one Cells gone through within itself, each range from slot 0 on.
func TestCellsWithinItself(t *testing.T) {
	benches(t, func(b *bench) {
		b.mix()
		cells := b.g.Cells()
		var outer []given
		for i, c := range cells {
			outer = append(outer, given{i, c})
			var inner []given
			for i, c := range cells {
				inner = append(inner, given{i, c})
			}
			same(t, "P6.10: a range within another", inner, b.fulls(0))
			for range cells {
				break
			}
		}
		same(t, "P6.10: a range around others", outer, b.fulls(0))
	})
}

// TestCellsAgainBehindChanges: the same Cells sees what the group holds when it is gone through, not when it was asked for.
func TestCellsAgainBehindChanges(t *testing.T) {
	benches(t, func(b *bench) {
		cells := b.g.Cells()
		again := func(what string, want []given) {
			t.Helper()
			var got []given
			for i, c := range cells {
				got = append(got, given{i, c})
			}
			same(t, "P6.10: the same Cells "+what, got, want)
		}
		again("of an empty group", nil)
		b.mix()
		again("behind fills", b.fulls(0))
		for _, c := range changes[:len(changes)-1] {
			c.do(b, 3)
			again("behind "+c.name, b.fulls(0))
		}
		answers(t, "Free", b.a.Free(b.block), api.OK)
		again("of a group that is gone", nil)
	})
}
