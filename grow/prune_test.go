package grow_test

import (
	"fmt"
	"math/rand"
	"testing"

	"larder/api"
	"larder/grow"
)

// tally: what has happened to marks, so that a run in which little happens is told.
type tally struct{ gone, some, kept int }

// count: of a prune that answered n, behind which so many marks are left.
func (y *tally) count(n, left int) {
	switch {
	case n > 0 && left > 0:
		y.some++
	case n > 0:
		y.gone++
	case left > 0:
		y.kept++
	}
}

func (y tally) enough(t *testing.T, name string, least int) {
	t.Helper()
	if min(y.gone, y.some, y.kept) < least {
		t.Errorf("%s: the run is too tame: %+v", name, y)
	}
}

// TestPruneByWords: full tables of which one key in one, two, six, or none is left, against the plain table; with the keys' own hashes.
func TestPruneByWords(t *testing.T) {
	r := rand.New(rand.NewSource(92))
	var happened tally
	for range 4 {
		for _, every := range []int{1, 2, 6, 20, 0} {
			benches(t, func(name string, b *bench) {
				b.crowd(r, every)
				b.holds(name)
				happened.count(b.prunes(name, b.o, b.seed), b.p.of(api.CellDeleted))
				b.found(name)
				if n := b.prunes(name+", again", b.o, b.seed); n != 0 {
					t.Fatalf("%s: P9.2: a second Prune answers %d", name, n)
				}
				b.found(name + ", again")
			})
		}
	}
	happened.enough(t, "P9.2", 20)
}

// TestPruneWithOtherHashes: what the calls do with another seed or another oracle is fixed by the same words, though keys may be lost by it.
func TestPruneWithOtherHashes(t *testing.T) {
	r := rand.New(rand.NewSource(93))
	var happened tally
	for _, every := range []int{2, 6, 20, 60} {
		for i := range 3 {
			benches(t, func(name string, b *bench) {
				b.crowd(r, every)
				x := b.others()[i]
				happened.count(b.prunes(name, x.o, x.seed), b.p.of(api.CellDeleted))
				if n := b.prunes(name+", again", x.o, x.seed); n != 0 {
					t.Fatalf("%s: P9.2: a second Prune answers %d", name, n)
				}
			})
		}
	}
	happened.enough(t, "P9.2, other hashes", 20)
}

// TestPruneLeavesTheHeader: of a retired table with pins and a next one, whose room was made less: the room goes up by what was pruned, nothing else changes.
func TestPruneLeavesTheHeader(t *testing.T) {
	benches(t, func(name string, b *bench) {
		r := rand.New(rand.NewSource(94))
		b.crowd(r, 0)
		b.dress()
		b.lose(b.p.left)
		n := b.prunes(name, b.o, b.seed)
		if st, e := b.tb.Stat(); st.Left != n || st.Pins != 3 || st.Next != 7777 || !st.Retired || e != api.OK {
			t.Fatalf("%s: P9.2: Stat = %+v, error %d, and %d marks went", name, st, e, n)
		}
	})
}

// mark: an empty slot is deleted, as no call of the table makes it in a group that has empty slots.
func (b *bench) mark(slot int) {
	b.t.Helper()
	g, e := b.tb.Group(slot / 8)
	answers(b.t, "Group", e, api.OK)
	answers(b.t, "Erase", g.Erase(slot%8, true), api.OK)
	b.p.cells[slot].Kind = api.CellDeleted
	b.lose(1)
}

// TestPruneOfOneGroup: nothing passes the one group of a table of 8 slots: every mark goes, with every seed.
func TestPruneOfOneGroup(t *testing.T) {
	for marks := range 8 {
		for i := range 4 {
			o := ask(t, kinds[i].over(2)...)
			b := set(t, descriptors[1], 8, 0, o, 1)
			for key := range 7 - marks {
				b.put(1 + key)
			}
			for s := range marks {
				b.mark(7 - s)
			}
			name := fmt.Sprintf("8 slots, %d marks, %s", marks, kinds[i].name)
			x := append(b.others(), hashing{o, 1})[i]
			if n := b.prunes(name, x.o, x.seed); n != marks {
				t.Fatalf("%s: P9.2: Prune answers %d", name, n)
			}
			b.found(name)
		}
	}
}

// TestOneCellDecides: a full table of eight groups whose marks hang on a single full cell: those of the groups ahead of its own stay, in the order of its home; its own group's and all behind go.
func TestOneCellDecides(t *testing.T) {
	order := []int{5, 6, 0, 3, 7, 4, 2, 1} // home 5, by 1, 2, 3, .. of 8
	for last := range 7 {
		o := ask(t, kinds[0].over(1)...)
		b := set(t, descriptors[0], 64, 0, o, 0)
		for key := range 56 {
			b.put(1 + key)
		}
		// The keys lie in the order of the groups, eight in each.
		for key := range 56 {
			if key != 8*last+3 {
				b.delete(1 + key)
			}
		}
		if n := b.prunes("one cell", o, 0); n != 7+8*(6-last) {
			t.Errorf("P9.2: a cell in group %d: Prune = %d, want %d", order[last], n, 7+8*(6-last))
		}
		for n, g := range order[:7] {
			want := api.CellEmpty
			if n < last {
				want = api.CellDeleted
			}
			if c, _ := b.tb.Cell(8 * g); c.Kind != want {
				t.Errorf("P9.2: a cell in group %d: the marks of group %d are now of kind %d, want %d", order[last], g, c.Kind, want)
			}
		}
		b.found("one cell")
	}
}

// TestACellDoesNotPassItsOwnGroup: a mark beside a full cell goes, where that cell's home is its group.
func TestACellDoesNotPassItsOwnGroup(t *testing.T) {
	o := letters(t)
	_, tb := example(t, 4096, 16, 0, o, "abcdefgh")
	takesOut(t, tb, o, "d")
	takesOut(t, tb, o, "h")
	shows(t, "P9.2", tb, 16, 6, 6, 0, "abc!efg!")
	prunes(t, "P9.2", tb, o, 2)
	shows(t, "P9.2", tb, 16, 6, 8, 0, "abc.efg.")
	// With a home of 1 each of them passes group 1, and its own group 0 none of them: the same goes.
	over := make([]api.Over, 0, 8)
	for i := range 8 {
		over = append(over, api.Over{Key: string(rune('a' + i)), Hash: hash(1, i)})
	}
	other := ask(t, over...)
	_, tb = example(t, 4096, 16, 0, o, "abcdefgh")
	takesOut(t, tb, o, "d")
	prunes(t, "P9.2, homes of 1", tb, other, 1)
	shows(t, "P9.2, homes of 1", tb, 16, 7, 7, 0, "abc.efgh")
}

// TestPruneOfAnEmptyTable: there is nothing to do.
func TestPruneOfAnEmptyTable(t *testing.T) {
	benches(t, func(name string, b *bench) {
		if n := b.prunes(name, b.o, b.seed); n != 0 {
			t.Fatalf("%s: P9.2: Prune of an empty table answers %d", name, n)
		}
	})
}

// TestFindingGoesOn: puts, deletes and prunes by turns, by a list of keys alone, which knows nothing of ways: what was put and not deleted is found; what was deleted is not.
func TestFindingGoesOn(t *testing.T) {
	r := rand.New(rand.NewSource(95))
	var happened tally
	for _, slots := range []int{16, 64} {
		for _, k := range kinds {
			o := ask(t, k.over(2)...)
			b := set(t, descriptors[1], slots, 0, o, 3)
			had := map[int]bool{}
			for i := range 1500 {
				key := 1 + r.Intn(64)
				if r.Intn(100) < 30+40*(i/100%2) {
					if out := b.put(key); out != api.PutNoRoom {
						had[key] = true
					}
				} else if b.delete(key) {
					delete(had, key)
				}
				if r.Intn(20) == 0 {
					n, e := grow.Prune(b.tb, o, 3)
					answers(t, "P9.2: Prune", e, api.OK)
					b.p.prune(b.of)
					happened.count(n, b.p.of(api.CellDeleted))
				}
				b.lists(k.name, had)
			}
			b.holds(k.name)
		}
	}
	happened.enough(t, "P9.3", 10)
}

// lists: just these keys are found.
func (b *bench) lists(name string, had map[int]bool) {
	b.t.Helper()
	for key := 1; key <= 64; key++ {
		k := text(b.l.Key, key)
		if n, e := b.tb.Find(b.of(k), k); n >= 0 != had[key] || e != api.OK {
			b.t.Fatalf("P9.3: %s: key %d, there: %v: Find = %d, error %d", name, key, had[key], n, e)
		}
	}
}
