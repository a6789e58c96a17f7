package audit

import "larder/api"

// collection: the full cells that have been met among those of which no two may have the same key or the same birth.
type collection struct {
	keys   map[string]int // how often each has been met
	births map[int]int
	pairs  []api.Pair
}

// nothingMet: a collection without cells.
func nothingMet() *collection { return &collection{keys: map[string]int{}, births: map[int]int{}} }

// hasKey: has the key been met?
func (c *collection) hasKey(key string) bool { return c.keys[key] > 0 }

// hasBirth: has the birth been met?
func (c *collection) hasBirth(birth int) bool { return c.births[birth] > 0 }

// add: a cell has been met.
func (c *collection) add(p api.Pair, birth int) {
	c.keys[p.Key]++
	c.births[birth]++
	c.pairs = append(c.pairs, p)
}
