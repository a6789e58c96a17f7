package audit

import (
	"larder/api"
	"larder/arena"
)

const wordBytes = 8

// claims: which blocks of the arena belong to something already.
type claims struct {
	arena *arena.Arena
	taken map[int]int // the claimed blocks' bytes, by their offset
}

// block: a block that is claimed, with its bytes as they lie there (nothing changes them while the look lasts).
type block struct {
	off   int
	bytes string
}

// noneClaimed: all the arena's blocks are still to be claimed.
func noneClaimed(a *arena.Arena) claims { return claims{a, map[int]int{}} }

// begins: the bytes of the live block at off, which what stands at the place names.
func (c claims) begins(off, place int) int {
	size, e := c.arena.Size(off)
	if e != api.OK {
		giveUp(noSuchBlock, place)
	}
	return size
}

// claim: the block at off, which what stands at the place names, for n bytes.
func (c claims) claim(off, n, place int) block {
	size := c.begins(off, place)
	if size != arena.Class(n) {
		giveUp(noSuchBlock, place)
	}
	if _, again := c.taken[off]; again {
		giveUp(claimedTwice, place)
	}
	c.taken[off] = size
	bytes, _ := c.arena.Read(off, size) // a live block's own bytes are never refused
	return block{off, bytes}
}

// lookForLost: each live block belongs to something. The blocks come in rising order, so the lowest is told.
func (c claims) lookForLost() {
	for off := range c.arena.Blocks() {
		if _, claimed := c.taken[off]; !claimed {
			giveUp(lostBlock, off)
		}
	}
}

// number: the eight bytes at that place of the block, the lowest first.
func (b block) number(at int) uint64 {
	n := uint64(0)
	for i := range wordBytes {
		n |= uint64(b.bytes[at+i]) << (8 * i)
	}
	return n
}

// word: the same, read as an int.
func (b block) word(at int) int { return int(b.number(at)) }

// must: the rule holds, or is broken at that place of the block.
func (b block) must(holds bool, rule, at int) {
	if !holds {
		giveUp(rule, b.off+at)
	}
}

// zeros: the bytes from there to there, that one left out, are 0; the first that is not breaks the rule.
func (b block) zeros(from, to, rule int) {
	for at := from; at < to; at++ {
		b.must(b.bytes[at] == 0, rule, at)
	}
}

// spare: the block's bytes behind the n for which it is claimed are 0.
func (b block) spare(n int) { b.zeros(n, len(b.bytes), spareNotZero) }
