package grow_test

import (
	"fmt"
	"maps"
	"math"
	"math/rand"
	"testing"

	"larder/api"
	"larder/arena"
	"larder/grow"
	"larder/oracle"
	"larder/table"
)

// kept: a key's elem and birth.
type kept struct {
	elem  string
	birth int
}

// heldBy: what the tables hold, all together; no key twice, each found with its hash.
func heldBy(t *testing.T, what string, of hasher, tables ...table.Table) map[string]kept {
	t.Helper()
	all := map[string]kept{}
	for _, tb := range tables {
		n := 0
		for s, c := range tb.Cells() {
			n++
			if _, twice := all[c.Key]; twice {
				t.Fatalf("%s: P9.8: %q lies twice", what, c.Key)
			}
			all[c.Key] = kept{c.Elem, c.Birth}
			if at, e := tb.Find(of(c.Key), c.Key); at != s || e != api.OK {
				t.Fatalf("%s: P9.8: Find of %q = %d, error %d, want %d", what, c.Key, at, e, s)
			}
		}
		if st, e := tb.Stat(); st.Used != n || e != api.OK {
			t.Fatalf("%s: P9.8: Used is %d of %d full cells, error %d", what, st.Used, n, e)
		}
	}
	return all
}

func holdsAll(t *testing.T, what string, got, want map[string]kept) {
	t.Helper()
	if !maps.Equal(got, want) {
		t.Fatalf("%s: P9.8: %d keys are there, want %d, or one of them has another elem or birth", what, len(got), len(want))
	}
}

// filled: a table with keys drawn by r, some of them deleted again, and what it holds.
func filled(t *testing.T, r *rand.Rand, a *arena.Arena, slots, depth int, of hasher) (table.Table, map[string]kept) {
	t.Helper()
	l := lay(t, [5]int{4, 3, 1, 1, 16})
	tb, e := table.New(a, l, slots, depth)
	answers(t, "table.New", e, api.OK)
	held := map[string]kept{}
	for i := range 3 * slots {
		key := fmt.Sprintf("%04d", r.Intn(3*slots/2))
		elem, birth := fmt.Sprintf("%03d", i%1000), []int{i, math.MaxInt - i, 1<<62 + i}[i%3]
		if i%3 == 2 {
			was, e := tb.Delete(of(key), key)
			answers(t, "Delete", e, api.OK)
			if _, known := held[key]; was != known {
				t.Fatalf("Delete of %q, there: %v: %v", key, known, was)
			}
			delete(held, key)
			continue
		}
		out, e := tb.Put(of(key), key, elem, birth)
		answers(t, "Put", e, api.OK)
		switch out {
		case api.PutAdded:
			held[key] = kept{elem, birth}
		case api.PutReplaced:
			held[key] = kept{elem, held[key].birth}
		}
	}
	return tb, held
}

// TestNothingIsLost: tables of all sizes up to 1024 slots, seeds of every sort, every depth.
func TestNothingIsLost(t *testing.T) {
	r := rand.New(rand.NewSource(98))
	o := ask(t, api.Over{Key: "0001", Hash: 0}, api.Over{Key: "0002", Hash: math.MaxUint64}, api.Over{Key: "0003", Hash: 0})
	for slots := 8; slots <= 1024; slots *= 2 {
		for i, seed := range []uint64{0, 1, math.MaxUint64, 1 << 63, 0x123456789, 77} {
			of := with(o, seed)
			what := fmt.Sprintf("%d slots, seed %d", slots, seed)
			a := open(t, api.MaxLimit)
			tb, want := filled(t, r, a, slots, i, of)
			holdsAll(t, what, heldBy(t, what, of, tb), want)
			renewed, e := grow.Renew(tb, o, seed)
			answers(t, what+": Renew", e, api.OK)
			holdsAll(t, what+": Renew", heldBy(t, what, of, renewed), want)
			doubled, e := grow.Double(tb, o, seed)
			answers(t, what+": Double", e, api.OK)
			holdsAll(t, what+": Double", heldBy(t, what, of, doubled), want)
			low, high, e := grow.Split(tb, o, seed)
			answers(t, what+": Split", e, api.OK)
			holdsAll(t, what+": Split", heldBy(t, what, of, low, high), want)
			_, e = grow.Prune(tb, o, seed)
			answers(t, what+": Prune", e, api.OK)
			holdsAll(t, what+": Prune", heldBy(t, what, of, tb), want)
		}
	}
}

// TestSplitToTheGreatestDepth: a table is split, and its halves, six times over: each key lies in the one of 64 tables that its top six bits name.
func TestSplitToTheGreatestDepth(t *testing.T) {
	o, r := ask(t), rand.New(rand.NewSource(99))
	const seed = 4242
	tb, want := filled(t, r, open(t, api.MaxLimit), 64, 0, with(o, seed))
	tables := []table.Table{tb}
	for depth := range 6 {
		var deeper []table.Table
		for _, tb := range tables {
			low, high, e := grow.Split(tb, o, seed)
			answers(t, fmt.Sprintf("P9.6: Split at depth %d", depth), e, api.OK)
			answers(t, "Free", tb.Free(), api.OK)
			deeper = append(deeper, low, high)
		}
		tables = deeper
		holdsAll(t, "Split", heldBy(t, "Split", with(o, seed), tables...), want)
	}
	for i, tb := range tables {
		for _, c := range tb.Cells() {
			if top := o.Hash(seed, c.Key) >> 58; int(top) != i {
				t.Errorf("P9.6: %q, whose top bits are %06b, lies in table %06b", c.Key, top, i)
			}
		}
	}
}

// grown: a table among those of a run that has room for one more key.
func grown(t *testing.T, o *oracle.Oracle, seed uint64, tb table.Table, ways map[int]int) table.Table {
	t.Helper()
	st, _ := tb.Stat()
	way := grow.Choose(st, 128)
	var next, spare table.Table
	var e api.Errno
	switch way {
	case api.GrowRenew:
		next, e = grow.Renew(tb, o, seed)
	case api.GrowDouble:
		next, e = grow.Double(tb, o, seed)
	case api.GrowSplit:
		next, spare, e = grow.Split(tb, o, seed)
	}
	answers(t, fmt.Sprint("P9.5, P9.6: way ", way), e, api.OK)
	ways[way]++
	if way == api.GrowSplit {
		answers(t, "Free", spare.Free(), api.OK)
	}
	answers(t, "Free", tb.Free(), api.OK)
	return next
}

// TestAPutWithoutRoom: as W5 has it, a step after the other: a put that finds no room (or a table whose room was taken from it) is pruned for, then the table is replaced, and the put is done; a map of the language beside it says what must be there. (Behind a split the low table alone is gone on with, and the keys of the high one are forgotten.)
func TestAPutWithoutRoom(t *testing.T) {
	r := rand.New(rand.NewSource(100))
	ways := map[int]int{}
	pruned := 0
	for seed := range uint64(40) {
		o, a, l := ask(t), open(t, api.MaxLimit), lay(t, [5]int{4, 3, 1, 1, 16})
		tb, e := table.New(a, l, 8, 0)
		answers(t, "table.New", e, api.OK)
		held := map[string]kept{}
		for i := range 600 {
			key := fmt.Sprintf("%04d", r.Intn(60+i/2))
			h := o.Hash(seed, key)
			if st, _ := tb.Stat(); h>>(64-st.Depth) != 0 {
				continue // of a table that was split away
			}
			if r.Intn(60) == 0 {
				st, _ := tb.Stat()
				answers(t, "AddLeft", tb.AddLeft(-st.Left), api.OK)
			}
			if r.Intn(100) < 20+50*(i/150%2) {
				was, _ := tb.Delete(h, key)
				if _, known := held[key]; was != known {
					t.Fatalf("P9.8: Delete of %q, there: %v: %v", key, known, was)
				}
				delete(held, key)
				continue
			}
			out, _ := tb.Put(h, key, "abc", i)
			if out == api.PutNoRoom {
				n, e := grow.Prune(tb, o, seed)
				answers(t, "P9.2: Prune", e, api.OK)
				pruned += n
				if n == 0 {
					tb = grown(t, o, seed, tb, ways)
				}
				st, _ := tb.Stat()
				maps.DeleteFunc(held, func(key string, _ kept) bool { return o.Hash(seed, key)>>(64-st.Depth) != 0 })
				if h>>(64-st.Depth) != 0 {
					continue
				}
				out, _ = tb.Put(h, key, "abc", i)
			}
			_, known := held[key]
			if known && out != api.PutReplaced || !known && out != api.PutAdded {
				t.Fatalf("P9.8: Put of %q, there: %v: outcome %d", key, known, out)
			}
			if !known {
				held[key] = kept{"abc", i}
			}
			holdsAll(t, "a put without room", heldBy(t, "a put without room", with(o, seed), tb), held)
		}
	}
	if pruned < 20 || ways[api.GrowRenew] < 5 || ways[api.GrowDouble] < 50 || ways[api.GrowSplit] < 20 {
		t.Errorf("the run is too tame: pruned %d, ways %v", pruned, ways)
	}
}
