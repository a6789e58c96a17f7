package oracle

import "slices"

// Draws: numbers that are taken one after the other.
type Draws struct {
	left []uint64 // those not taken yet, the next one first
}

// NewDraws: these numbers.
func NewDraws(list ...uint64) *Draws {
	return &Draws{left: slices.Clone(list)}
}

// Take: the next number; 0 behind the last.
func (d *Draws) Take() uint64 {
	if len(d.left) == 0 {
		return 0
	}
	next := d.left[0]
	d.left = d.left[1:]
	return next
}

// Left: how many are left.
func (d *Draws) Left() int { return len(d.left) }
