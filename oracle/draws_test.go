package oracle_test

import (
	"math/rand"
	"slices"
	"testing"

	"larder/oracle"
)

// drawn: draws that NewDraws has given.
func drawn(t *testing.T, list ...uint64) *oracle.Draws {
	t.Helper()
	d := oracle.NewDraws(list...)
	if d == nil {
		t.Fatalf("P4.7: NewDraws of %d numbers is nil", len(list))
	}
	return d
}

// runsOut: the draws answer these numbers and then zeros, and tell at each step how many are left.
func runsOut(t *testing.T, d *oracle.Draws, want ...uint64) {
	t.Helper()
	for i, v := range want {
		if n, again := d.Left(), d.Left(); n != len(want)-i || again != n {
			t.Errorf("P4.7: ahead of number %d of %d: Left %d, then %d", i, len(want), n, again)
		}
		if got := d.Take(); got != v {
			t.Errorf("P4.7: number %d of %d is %d, want %d", i, len(want), got, v)
		}
	}
	for range 5 {
		if n, v := d.Left(), d.Take(); n != 0 || v != 0 {
			t.Errorf("P4.7: behind the last of %d: Left %d, Take %d", len(want), n, v)
		}
	}
	if n := d.Left(); n != 0 {
		t.Errorf("P4.7: Left %d behind takes past the last", n)
	}
}

func TestDraws(t *testing.T) {
	runsOut(t, drawn(t))
	runsOut(t, drawn(t, []uint64{}...))
	runsOut(t, drawn(t, 0), 0)
	runsOut(t, drawn(t, 5), 5)
	runsOut(t, drawn(t, greatest), greatest)
	runsOut(t, drawn(t, 0, 0, 0), 0, 0, 0)
	runsOut(t, drawn(t, 3, 3, 1, 2, 3), 3, 3, 1, 2, 3) // neither sorted nor without repeats
	many := make([]uint64, 10000)
	for i := range many {
		many[i] = uint64(i) * 0x9E3779B97F4A7C15
	}
	runsOut(t, drawn(t, many...), many...)
}

// TestLeftChangesNothing: asked for between takes or not, the numbers are the same.
func TestLeftChangesNothing(t *testing.T) {
	asked, alone := drawn(t, 1, 2, 3, 4), drawn(t, 1, 2, 3, 4)
	for range 6 {
		for range 3 {
			asked.Left()
		}
		if a, b := asked.Take(), alone.Take(); a != b {
			t.Errorf("P4.7: %d with Left, %d without", a, b)
		}
	}
}

// TestDrawsListIsTheCallers: what is done to the list behind NewDraws is not seen, and taking does nothing to it.
func TestDrawsListIsTheCallers(t *testing.T) {
	store := []uint64{1, 2, 3, 4, 5, 6, 7}
	list := store[:4] // with room behind its last
	untaken, begun, whole := drawn(t, list...), drawn(t, list...), drawn(t, store...)
	begun.Take()
	runsOut(t, drawn(t, list...), 1, 2, 3, 4)
	if !slices.Equal(store, []uint64{1, 2, 3, 4, 5, 6, 7}) {
		t.Errorf("P4.7: the list is %v behind takes", store)
	}
	for i := range store {
		store[i] = 99
	}
	list = append(list, 98)
	runsOut(t, untaken, 1, 2, 3, 4)
	runsOut(t, begun, 2, 3, 4)
	runsOut(t, whole, 1, 2, 3, 4, 5, 6, 7)
	if list[0] != 99 || list[4] != 98 {
		t.Errorf("P4.7: the list is %v behind takes", list)
	}
}

// TestDrawsApart: several rows, some of one list, are taken from in turn; each answers by its own takes alone.
func TestDrawsApart(t *testing.T) {
	r := rand.New(rand.NewSource(47))
	list := []uint64{10, 20, 30, 40, 50}
	want := [][]uint64{slices.Clone(list), slices.Clone(list), {7}, {}, {0, 1, 0, 1}}
	var rows []*oracle.Draws
	for i, w := range want {
		if i < 2 {
			w = list
		}
		rows = append(rows, drawn(t, w...))
	}
	for range 200 {
		i, next := r.Intn(len(rows)), uint64(0)
		if len(want[i]) > 0 {
			next, want[i] = want[i][0], want[i][1:]
		}
		if v := rows[i].Take(); v != next {
			t.Fatalf("P4.7: row %d: Take %d, want %d", i, v, next)
		}
		for j := range rows {
			if n := rows[j].Left(); n != len(want[j]) {
				t.Fatalf("P4.7: row %d: Left %d, want %d", j, n, len(want[j]))
			}
		}
	}
}
