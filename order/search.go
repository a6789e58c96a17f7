package order

import (
	"slices"
	"strings"

	"larder/api"
)

// find: the key's place among the node's pairs, and whether it is there: so many of them are below it.
func (n *node) find(key string) (int, bool) {
	return slices.BinarySearchFunc(n.pairs[:n.used], key, func(p api.Pair, key string) int { return strings.Compare(p.Key, key) })
}

// step: a node on a way down, and the place at which the way goes on (or ends).
type step struct {
	node
	at int
}

// way: from the root down to the node that has the key, and true; or to the leaf in which it would be.
func (t Tree) way(key string) (head, []step, bool, api.Errno) {
	h, e := t.head()
	if e != api.OK {
		return head{}, nil, false, e
	}
	if len(key) != t.lay.Key {
		return head{}, nil, false, api.ErrKeyWidth
	}
	var way []step
	off := h.root
	for range h.Height {
		n, e := t.node(off)
		if e != api.OK {
			return head{}, nil, false, e
		}
		at, found := n.find(key)
		way = append(way, step{n, at})
		if found {
			return h, way, true, api.OK
		}
		off = n.below[at].off
	}
	return h, way, false, api.OK
}

// Get: the key's elem, and whether it is there.
func (t Tree) Get(key string) (string, bool, api.Errno) {
	_, way, found, e := t.way(key)
	if !found {
		return "", false, e
	}
	last := way[len(way)-1]
	return last.pairs[last.at].Elem, true, api.OK
}

// rank: how many keys are below key; with itself also key counts, if it is there.
func (t Tree) rank(h head, key string, itself bool) (int, api.Errno) {
	rank := 0
	off := h.root
	for range h.Height {
		n, e := t.node(off)
		if e != api.OK {
			return 0, e
		}
		at, found := n.find(key)
		if found && itself {
			at++
		}
		for _, b := range n.below[:at] {
			rank += b.keys + 1
		}
		off = n.below[at].off
	}
	return rank, api.OK
}

// nth: the pair whose key has just i keys below it. (Where there is none, the way ends ahead of the first pair or behind the last one.)
func (t Tree) nth(h head, i int) (api.Pair, bool, api.Errno) {
	off := h.root
	for range h.Height {
		n, e := t.node(off)
		if e != api.OK {
			return api.Pair{}, false, e
		}
		at := 0
		for at < n.used && i > n.below[at].keys {
			i -= n.below[at].keys + 1
			at++
		}
		if at < n.used && i == n.below[at].keys {
			return n.pairs[at], true, api.OK
		}
		off = n.below[at].off
	}
	return api.Pair{}, false, api.OK
}

// near: the pair that stands by so many places behind (ahead, if by is below 0) the first one whose key is not below key; with itself, the first one whose key is above it.
func (t Tree) near(key string, itself bool, by int) (api.Pair, bool, api.Errno) {
	h, e := t.head()
	if e != api.OK {
		return api.Pair{}, false, e
	}
	rank, e := t.rank(h, key, itself)
	if e != api.OK {
		return api.Pair{}, false, e
	}
	return t.nth(h, rank+by)
}

// Floor: the pair with the greatest key that is not above key.
func (t Tree) Floor(key string) (api.Pair, bool, api.Errno) { return t.near(key, true, -1) }

// Ceiling: the pair with the least key that is not below key.
func (t Tree) Ceiling(key string) (api.Pair, bool, api.Errno) { return t.near(key, false, 0) }

// below: the pair with the greatest key below key.
func (t Tree) below(key string) (api.Pair, bool, api.Errno) { return t.near(key, false, -1) }

// above: the pair with the least key above key.
func (t Tree) above(key string) (api.Pair, bool, api.Errno) { return t.near(key, true, 0) }

// Rank: how many keys are below key.
func (t Tree) Rank(key string) (int, api.Errno) {
	h, e := t.head()
	if e != api.OK {
		return 0, e
	}
	return t.rank(h, key, false)
}

// Nth: the pair of rank i.
func (t Tree) Nth(i int) (api.Pair, bool, api.Errno) {
	h, e := t.head()
	if e != api.OK {
		return api.Pair{}, false, e
	}
	return t.nth(h, i)
}
