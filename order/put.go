package order

import (
	"slices"

	"larder/api"
)

// Put: the key has that elem: was it added?
func (t Tree) Put(key, elem string) (bool, api.Errno) {
	h, way, found, e := t.way(key)
	switch {
	case e != api.OK:
		return false, e
	case len(elem) != t.lay.Elem:
		return false, api.ErrElemWidth
	case found:
		last := way[len(way)-1]
		last.pairs[last.at].Elem = elem
		return false, t.write(last.node)
	}
	e = t.add(h, way, api.Pair{Key: key, Elem: elem})
	return e == api.OK, e
}

// add: the pair comes into the tree, at the way's end. All blocks that this takes are had ahead of the first change: a new node for each one that must be split, and a root, if there is no place left on the whole way.
func (t Tree) add(h head, way []step, p api.Pair) api.Errno {
	full := fullAtEnd(way)
	blocks := full
	if full == len(way) {
		blocks++
	}
	offs, e := t.arena.AllocAll(slices.Repeat([]int{t.nodeSize()}, blocks)...)
	if e != api.OK {
		return e
	}
	if full == len(way) {
		// The last of them is the root's: it is still empty, and takes what comes up from below.
		h.root = offs[full]
		way = slices.Insert(way, 0, step{node: node{off: h.root}})
		h.Height++
	}
	t.raise(way, p, offs)
	h.Used++
	h.Nodes += blocks
	return t.setHead(h)
}

// fullAtEnd: how many nodes from the way's end upwards have no place left.
func fullAtEnd(way []step) int {
	n := 0
	for n < len(way) && way[len(way)-1-n].used == most {
		n++
	}
	return n
}

// raise: the pair comes into the leaf. A node that has one pair too many now is split, at the next of these offsets, and the pair in its middle comes into the node above; those further up only count one key more.
func (t Tree) raise(way []step, p api.Pair, offs []int) {
	var left, right branch // what lies ahead of the pair, and behind it
	i := len(way) - 1
	for ; ; i-- {
		s := &way[i]
		s.below[s.at] = left
		s.insert(s.at, p, right)
		if s.used <= most {
			break
		}
		var next node
		p, next = s.split(offs[0])
		offs = offs[1:]
		t.write(s.node)
		t.write(next)
		left, right = s.branch(), next.branch()
	}
	t.write(way[i].node)
	for _, s := range way[:i] {
		s.below[s.at].keys++
		t.write(s.node)
	}
}
