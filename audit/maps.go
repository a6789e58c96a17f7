package audit

import (
	"larder/api"
	"larder/layout"
	"larder/oracle"
)

// A map's header: where its words lie.
const (
	usedWord    = 0
	seedWord    = 8
	birthsWord  = 16
	epochWord   = 24
	rootWord    = 32
	depthWord   = 40
	retiredWord = 48
	zeroWord    = 56
	headerBytes = 64
)

const (
	noDir     = -1      // the depth of a map that has no directory
	mostCount = 1 << 62 // births and epochs
)

// audited: the map that is looked at, and what its cells are held against.
type audited struct {
	claims
	oracle *oracle.Oracle
	lay    api.Layout
	head   block
	seed   uint64
	births int
}

// lookAtMap: all of a map's bytes, in the document's order: the pairs that it holds.
func lookAtMap(c claims, o *oracle.Oracle, root api.Root) []api.Pair {
	if !layout.Valid(root.Layout) {
		giveUp(badLayout, root.Off)
	}
	head := c.claim(root.Off, headerBytes, root.Off)
	lookAtHeader(head)
	m := audited{claims: c, oracle: o, lay: root.Layout, head: head, seed: head.number(seedWord), births: head.word(birthsWord)}
	current := nothingMet()
	m.below(current)
	head.must(head.word(usedWord) == len(current.pairs), badUsed, usedWord)
	m.lookAtRetired()
	return current.pairs
}

// lookAtHeader: the header's words, as far as they can be judged by themselves.
func lookAtHeader(head block) {
	used, births, epoch, depth := head.word(usedWord), head.word(birthsWord), head.word(epochWord), head.word(depthWord)
	head.must(used >= 0, badHeader, usedWord)
	head.must(births >= used && births <= mostCount, badHeader, birthsWord)
	head.must(epoch >= 0 && epoch <= mostCount, badHeader, epochWord)
	head.must(head.word(zeroWord) == 0, badHeader, zeroWord)
	head.must(depth == noDir || isDepth(depth, api.MaxDepth), badDepth, depthWord)
}

// isDepth: is that a depth, and at most that great?
func isDepth(depth, most int) bool { return depth >= 0 && depth <= most }

// below: what the header's root names; all its cells are of one collection.
func (m audited) below(met *collection) {
	depth, root := m.head.word(depthWord), m.head.word(rootWord)
	switch {
	case depth != noDir:
		m.lookAtDir(depth, met)
	case root != 0:
		b := m.claim(root, smallBytes+m.lay.Group, m.head.off+rootWord)
		lookAtCurrent(b, api.KindSmall)
		m.lookAtSmall(b, met)
	}
}

// lookAtDir: the directory, and the tables in the order of its entries. An entry of which a table's run goes past is not asked again.
func (m audited) lookAtDir(depth int, met *collection) {
	entries := 1 << depth
	dir := m.claim(m.head.word(rootWord), entries*wordBytes, m.head.off+rootWord)
	dir.spare(entries * wordBytes)
	for i := 0; i < entries; {
		i += m.lookAtEntry(dir, depth, i, met)
	}
}

// lookAtEntry: the table that entry i names: at how many entries it stands.
func (m audited) lookAtEntry(dir block, depth, i int, met *collection) int {
	off := dir.word(i * wordBytes)
	t := m.claim(off, tableBytes, dir.off+i*wordBytes)
	lookAtCurrent(t, api.KindTable)
	m.lookAtSlots(t)
	own := t.word(tableDepthWord)
	t.must(isDepth(own, depth), badTableDepth, tableDepthWord)
	run := 1 << (depth - own)
	dir.must(i%run == 0, badEntry, i*wordBytes)
	for n := i; n < i+run; n++ {
		dir.must(dir.word(n*wordBytes) == off, badEntry, n*wordBytes)
	}
	m.lookAtTable(t, i/run, met)
	return run
}

// lookAtRetired: the retired ones, each named by the one ahead of it, the first by the header. As each is claimed, there is an end even to a ring.
func (m audited) lookAtRetired() {
	namer, at := m.head, retiredWord
	for namer.word(at) != 0 {
		namer, at = m.lookAtOneRetired(namer.word(at), namer.off+at), nextWord
	}
}

// lookAtOneRetired: the retired block at off, which the word at the place names. Its kind is read ahead of the claim: by its kind it is claimed for so many bytes.
func (m audited) lookAtOneRetired(off, place int) block {
	m.begins(off, place)
	kind, _ := m.arena.Load(off, wordBytes) // each block has a word at least
	switch kind {
	case api.KindSmallRetired:
		b := m.claim(off, smallBytes+m.lay.Group, place)
		lookAtPins(b, 1)
		m.lookAtSmall(b, nothingMet())
		return b
	case api.KindTableRetired:
		b := m.claim(off, tableBytes, place)
		lookAtPins(b, 1)
		m.lookAtSlots(b)
		b.must(isDepth(b.word(tableDepthWord), api.MaxDepth), badTableDepth, tableDepthWord)
		m.lookAtTable(b, topOfFirst, nothingMet())
		return b
	}
	giveUp(badKind, off)
	return block{}
}
