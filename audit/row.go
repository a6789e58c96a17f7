package audit

import (
	"larder/api"
	"larder/ctrl"
	"larder/layout"
	"larder/oracle"
	"larder/probe"
)

const perGroup = 8 // slots

// topOfFirst: which top bits a retired table's keys have in common no entry tells any more: its first full cell does.
const topOfFirst = -1

// row: groups that lie one behind the other in a block: a table's, or a small block's one.
type row struct {
	audited
	block   block
	first   int      // where group 0 begins in the block
	words   []uint64 // the groups' control words
	met     *collection
	isTable bool
	depth   int // of a table
	top     int // the top bits of its keys' hashes, as many as it is deep
}

// look: the groups from the first on, all slots of one ahead of the next. A cell's way leads over groups that lie behind its own, too: so all control words are read first.
func (r *row) look() {
	for g := range r.words {
		r.words[g] = r.block.number(r.begin(g))
	}
	for g := range r.words {
		for i := range perGroup {
			r.lookAtSlot(g, i)
		}
		if r.isTable {
			empty, deleted := vacant(r.words[g])
			r.block.must(empty == 0 || deleted == 0, mixedGroup, r.begin(g))
		}
	}
}

// begin: where group g begins in the block.
func (r *row) begin(g int) int { return r.first + g*r.lay.Group }

// lookAtSlot: slot i of group g.
func (r *row) lookAtSlot(g, i int) {
	w := r.words[g]
	switch {
	case ctrl.MatchFull(w).Has(i):
		r.lookAtFull(g, i)
	case ctrl.MatchEmpty(w).Has(i), r.isTable && ctrl.MatchVacant(w).Has(i):
		from := r.begin(g) + layout.KeyAt(r.lay, i)
		r.block.zeros(from, from+r.lay.Slot, slotNotZero)
	default:
		r.block.must(false, badControl, r.begin(g)+i)
	}
}

// lookAtFull: slot i of group g, which is full.
func (r *row) lookAtFull(g, i int) {
	b, begin := r.block, r.begin(g)
	keyAt := begin + layout.KeyAt(r.lay, i)
	elemAt, birthAt := keyAt+r.lay.ElemOff, keyAt+r.lay.BirthOff
	elemEnd := elemAt + r.lay.Elem
	pair := api.Pair{Key: b.bytes[keyAt : keyAt+r.lay.Key], Elem: b.bytes[elemAt:elemEnd]}
	h := r.oracle.Hash(r.seed, pair.Key)
	b.must(ctrl.Get(r.words[g], i) == oracle.Tag(h), badTag, begin+i)
	b.zeros(keyAt+r.lay.Key, elemAt, slotNotZero)
	b.zeros(elemEnd, birthAt, slotNotZero)
	birth := b.word(birthAt)
	b.must(birth >= 0 && birth < r.births, badBirth, birthAt)
	b.must(!r.met.hasKey(pair.Key), keyTwice, keyAt)
	b.must(!r.met.hasBirth(birth), birthTwice, birthAt)
	r.met.add(pair, birth)
	if r.isTable {
		b.must(r.belongs(h), wrongTable, keyAt)
		b.must(r.reached(h, g), outOfReach, keyAt)
	}
}

// belongs: has the hash the table's top bits?
func (r *row) belongs(h uint64) bool {
	top := oracle.Top(h, r.depth)
	if r.top == topOfFirst {
		r.top = top
	}
	return r.top == top
}

// reached: does a search for that hash come to group g? It ends at the first group with an empty slot.
func (r *row) reached(h uint64, g int) bool {
	for ahead := range probe.Order(oracle.Home(h), len(r.words)) {
		if ahead == g {
			break
		}
		if ctrl.MatchEmpty(r.words[ahead]).Count() > 0 {
			return false
		}
	}
	return true
}

// count: how many slots are full, and how many deleted.
func (r *row) count() (int, int) {
	full, deleted := 0, 0
	for _, w := range r.words {
		full += ctrl.MatchFull(w).Count()
		_, n := vacant(w)
		deleted += n
	}
	return full, deleted
}

// vacant: how many slots of a group are empty, and how many deleted.
func vacant(w uint64) (int, int) {
	empty := ctrl.MatchEmpty(w).Count()
	return empty, ctrl.MatchVacant(w).Count() - empty
}
