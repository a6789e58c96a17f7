package audit

import (
	"larder/api"
	"larder/layout"
	"larder/probe"
)

// A table's header and a small block's: where their words lie. The first four are the same in both.
const (
	kindWord       = 0
	pinsWord       = 8
	nextWord       = 16
	heldWord       = 24 // its used
	smallBytes     = 32 // a small block's header: its group begins behind it
	slotsWord      = 32
	roomWord       = 40
	tableDepthWord = 48
	groupsWord     = 56
	tableBytes     = 64
)

// lookAtCurrent: what the first words of a table or a small block say that its map has now.
func lookAtCurrent(b block, kind int) {
	b.must(b.word(kindWord) == kind, badKind, kindWord)
	lookAtPins(b, 0)
	b.must(b.word(nextWord) == 0, badNext, nextWord)
}

// lookAtPins: as many walks stand on it as can, and no fewer than that.
func lookAtPins(b block, least int) {
	pins := b.word(pinsWord)
	b.must(pins >= least && pins <= api.MaxPins, badPins, pinsWord)
}

// lookAtSmall: what lies behind the first words of a small block.
func (m audited) lookAtSmall(b block, met *collection) {
	r := row{audited: m, block: b, first: smallBytes, words: make([]uint64, 1), met: met}
	r.look()
	full, _ := r.count()
	b.must(b.word(heldWord) == full, badUsed, heldWord)
	b.spare(smallBytes + m.lay.Group)
}

// lookAtSlots: are there tables with so many slots?
func (m audited) lookAtSlots(t block) {
	t.must(layout.Groups(m.lay, t.word(slotsWord)) > 0, badSlots, slotsWord)
}

// lookAtTable: the groups of the table with that header, whose keys' hashes have those top bits; and what the header says of them.
func (m audited) lookAtTable(t block, top int, met *collection) {
	slots := t.word(slotsWord)
	n := layout.Groups(m.lay, slots)
	b := m.claim(t.word(groupsWord), n, t.off+groupsWord)
	r := row{audited: m, block: b, words: make([]uint64, n/m.lay.Group), met: met, isTable: true, depth: t.word(tableDepthWord), top: top}
	r.look()
	full, deleted := r.count()
	t.must(t.word(heldWord) == full, badUsed, heldWord)
	t.must(t.word(roomWord) == probe.Most(slots)-full-deleted, badRoom, roomWord)
	b.spare(n)
}
