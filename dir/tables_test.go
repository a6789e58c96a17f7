package dir_test

import (
	"iter"
	"math/rand"
	"slices"
	"testing"

	"larder/api"
	"larder/dir"
)

// gives: the range gives just these pairs.
func gives(t *testing.T, what string, got, want []pair) {
	t.Helper()
	if !slices.Equal(got, want) {
		t.Fatalf("P10.9: %s: Tables gives %v, want %v", what, got, want)
	}
}

// TestTables: runs of equal neighbours, and the same table at two of them.
func TestTables(t *testing.T) {
	benches(t, func(depth int, b *bench) {
		gives(t, "of all kinds", gone(b.d), firsts(b.list))
		b.holds("P10.9")
	})
	for _, c := range []struct {
		list []int
		want []pair
	}{
		{[]int{0}, []pair{{0, 0}}},
		{[]int{0, 0}, []pair{{0, 0}}},
		{[]int{0, -1}, []pair{{0, 0}, {1, -1}}},
		{[]int{5, 5, 5, 5}, []pair{{0, 5}}},
		{[]int{5, 6, 5, 6}, []pair{{0, 5}, {1, 6}, {2, 5}, {3, 6}}},
		{[]int{5, 5, 6, 6, 5, 5, 5, 5}, []pair{{0, 5}, {2, 6}, {4, 5}}},
		{[]int{0, 0, 0, 0, 0, 0, 0, 9}, []pair{{0, 0}, {7, 9}}},
		{[]int{9, 0, 0, 0, 0, 0, 0, 0}, []pair{{0, 9}, {1, 0}}},
		{[]int{1, 2, 3, 4, 5, 6, 7, 8}, []pair{{0, 1}, {1, 2}, {2, 3}, {3, 4}, {4, 5}, {5, 6}, {6, 7}, {7, 8}}},
	} {
		gives(t, "of given entries", gone(made(t, open(t, 4096), c.list...)), c.want)
	}
}

// TestTablesOfRandomRuns: each table's entries side by side, all lengths of runs.
func TestTablesOfRandomRuns(t *testing.T) {
	r := rand.New(rand.NewSource(101))
	runs := 0
	for range 300 {
		list := make([]int, 1<<r.Intn(7))
		for i := range list {
			list[i] = r.Intn(2) * r.Intn(4)
		}
		want := firsts(list)
		runs += len(want)
		gives(t, "of random entries", gone(made(t, open(t, 4096), list...)), want)
	}
	if runs < 2000 || runs > 4500 {
		t.Errorf("the run is too tame: %d runs of neighbours", runs)
	}
}

// TestTablesStoppedEarly: at each entry; no more is given, and the next range begins anew.
func TestTablesStoppedEarly(t *testing.T) {
	benches(t, func(depth int, b *bench) {
		all := firsts(b.list)
		tables := b.d.Tables()
		for n := range all {
			var l []pair
			for i, x := range tables {
				l = append(l, pair{i, x})
				if len(l) > n {
					break
				}
			}
			gives(t, "stopped early", l, all[:n+1])
		}
		for n := range all { // asked by hand: behind a false nothing more comes
			given := 0
			tables(func(int, int) bool {
				given++
				return given <= n
			})
			if given != n+1 {
				t.Fatalf("P10.9: behind a stop at the pair %d there were %d", n, given)
			}
		}
	})
}

// TestTablesAgain: the same answer gone through again and again, each time as the directory is then.
func TestTablesAgain(t *testing.T) {
	b := set(t, 1, 1, 2, 3)
	tables := b.d.Tables()
	collect := func() []pair {
		var l []pair
		for i, x := range tables {
			l = append(l, pair{i, x})
		}
		return l
	}
	gives(t, "first", collect(), []pair{{0, 1}, {2, 2}, {3, 3}})
	gives(t, "again", collect(), []pair{{0, 1}, {2, 2}, {3, 3}})
	b.place(3, 1, 7)
	gives(t, "behind a place", collect(), []pair{{0, 1}, {2, 7}})
	b.widen()
	gives(t, "behind a widening", collect(), nil)
	gives(t, "of the wider one", gone(b.d), []pair{{0, 1}, {4, 7}})
}

// TestTablesWithinAnother: a range in the body of another one over the same answer, at each entry.
func TestTablesWithinAnother(t *testing.T) {
	b := set(t, tables()[:16]...)
	all := firsts(b.list)
	tables := b.d.Tables()
	var outer []pair
	for i, x := range tables {
		outer = append(outer, pair{i, x})
		var inner []pair
		for k, y := range tables {
			inner = append(inner, pair{k, y})
		}
		gives(t, "the inner range", inner, all)
		for range tables {
			break
		}
	}
	gives(t, "the outer range", outer, all)
}

// TestTablesByTurns: two ranges over one answer, step by step beside each other.
func TestTablesByTurns(t *testing.T) {
	b := set(t, tables()[:8]...)
	all := firsts(b.list)
	tables := b.d.Tables()
	one, stopOne := iter.Pull2(tables)
	defer stopOne()
	two, stopTwo := iter.Pull2(tables)
	defer stopTwo()
	var first, second []pair
	for range 3 {
		i, x, _ := one()
		first = append(first, pair{i, x})
	}
	for i, x, ok := two(); ok; i, x, ok = two() {
		second = append(second, pair{i, x})
	}
	for i, x, ok := one(); ok; i, x, ok = one() {
		first = append(first, pair{i, x})
	}
	gives(t, "by turns", first, all)
	gives(t, "by turns", second, all)
}

// TestTablesReadsInTurn: what the body places is seen in the entries to come, and only there; held against a plain list.
func TestTablesReadsInTurn(t *testing.T) {
	r := rand.New(rand.NewSource(102))
	ahead, behind := 0, 0
	for range 2000 {
		depth := r.Intn(7)
		b := set(t, tables()[:1<<depth]...)
		var got, want []pair
		last, next := 0, 0
		for i, x := range b.d.Tables() {
			got = append(got, pair{i, x})
			// What was read up to here was read of the list as it was then.
			for ; next <= i; next++ {
				if next == 0 || b.list[next] != last {
					want = append(want, pair{next, b.list[next]})
				}
				last = b.list[next]
			}
			if k := r.Intn(len(b.list)); r.Intn(2) == 0 {
				if k > i {
					ahead++
				} else {
					behind++
				}
				b.place(k, r.Intn(depth+1), []int{x, 5, 6, 100}[r.Intn(4)])
			}
		}
		for ; next < len(b.list); next++ {
			if b.list[next] != last {
				want = append(want, pair{next, b.list[next]})
			}
			last = b.list[next]
		}
		gives(t, "changed meanwhile", got, want)
	}
	if ahead < 1000 || behind < 1000 {
		t.Errorf("the run is too tame: %d places ahead, %d behind", ahead, behind)
	}
}

// TestTablesChangedBehind: an entry that was read already may become what it will; the one that was read last counts as it was read.
func TestTablesChangedBehind(t *testing.T) {
	d := made(t, open(t, 4096), 1, 2, 2, 3)
	var l []pair
	for i, x := range d.Tables() {
		l = append(l, pair{i, x})
		if i == 1 {
			d.Place(1, 2, 9) // entry 2 is still what entry 1 was read as
		}
	}
	gives(t, "changed behind", l, []pair{{0, 1}, {1, 2}, {3, 3}})
	l = nil
	for i, x := range d.Tables() { // 1, 9, 2, 3
		l = append(l, pair{i, x})
		if i == 0 {
			d.Place(0, 0, 1)
		}
	}
	gives(t, "all made alike", l, []pair{{0, 1}})
	l = nil
	for i, x := range d.Tables() { // all 1
		l = append(l, pair{i, x})
		d.Place(min(i+1, 3), 2, 50+i)
	}
	gives(t, "each made another", l, []pair{{0, 1}, {1, 50}, {2, 51}, {3, 52}})
}

// TestTablesAreLazy: an entry is given as soon as it is read, ahead of the next one's reading, also where that one is refused.
func TestTablesAreLazy(t *testing.T) {
	a := open(t, 4096)
	made(t, a, 1, 2, 2, 4)
	gives(t, "a block too short", gone(dir.At(a, 16, 3)), []pair{{0, 1}, {1, 2}, {3, 4}})
	gives(t, "a word that begins ahead of the block", gone(dir.At(a, 8, 2)), nil)
	offs, e := a.AllocAll(16, 16)
	answers(t, "AllocAll", e, api.OK)
	answers(t, "Write", a.Write(offs[1], text(0, 7)), api.OK)
	gives(t, "across blocks that touch", gone(dir.At(a, 16, 3)), []pair{{0, 1}, {1, 2}, {3, 4}, {4, 0}, {7, 7}})
	answers(t, "Free", a.Free(offs[0]), api.OK)
	gives(t, "behind a gap nothing", gone(dir.At(a, 16, 3)), []pair{{0, 1}, {1, 2}, {3, 4}})
}

// TestTablesFreedOrWidenedMeanwhile: it ends there; a new block at the same place is read as what it is.
func TestTablesFreedOrWidenedMeanwhile(t *testing.T) {
	ends := map[string]func(d dir.Dir) api.Errno{
		"freed": func(d dir.Dir) api.Errno { return d.Free() },
		"widened": func(d dir.Dir) api.Errno {
			_, e := d.Widen()
			return e
		},
	}
	for what, end := range ends {
		for stop := range 8 {
			d := made(t, open(t, 4096), 1, 2, 3, 4, 5, 6, 7, 8)
			var l, want []pair
			for i := range stop + 1 {
				want = append(want, pair{i, i + 1})
			}
			for i, x := range d.Tables() {
				l = append(l, pair{i, x})
				if i == stop {
					answers(t, what, end(d), api.OK)
				}
			}
			gives(t, what, l, want)
		}
	}
	a := open(t, 4096)
	d := made(t, a, 1, 2, 3, 4)
	var l []pair
	for i, x := range d.Tables() {
		l = append(l, pair{i, x})
		if i == 1 {
			answers(t, "P10.10: Free", d.Free(), api.OK)
			made(t, a, 10, 20, 30, 40)
		}
	}
	gives(t, "another one at the same place", l, []pair{{0, 1}, {1, 2}, {2, 30}, {3, 40}})
}

// TestTablesIsNeverNil: whatever it is asked of, and asking alone changes nothing.
func TestTablesIsNeverNil(t *testing.T) {
	b := set(t, 1, 2)
	for _, depth := range append([]int{0, 1, 2, 6}, unfit...) {
		for _, off := range append([]int{b.d.Off(), 0, -8}, far...) {
			if dir.At(b.a, off, depth).Tables() == nil {
				t.Fatalf("P10.9: Tables of At(%d, %d) is nil", off, depth)
			}
		}
	}
	if (dir.Dir{}).Tables() == nil {
		t.Errorf("P10.9: Tables of the zero Dir is nil")
	}
	b.holds("P10.9")
}
