package order

import "larder/api"

// Delete: the key is there no more: was it?
func (t Tree) Delete(key string) (bool, api.Errno) {
	h, way, found, e := t.way(key)
	if !found {
		return false, e
	}
	e = t.take(h, way)
	return e == api.OK, e
}

// take: the pair at the way's end is there no more. If it isn't in a leaf, the one ahead of it, which is in one, comes to its place.
func (t Tree) take(h head, way []step) api.Errno {
	last := len(way) - 1
	way, e := t.toLeaf(way, h.Height)
	if e != api.OK {
		return e
	}
	leaf := &way[len(way)-1]
	way[last].pairs[way[last].at] = leaf.pairs[leaf.at]
	leaf.remove(leaf.at)
	for i := len(way) - 1; i > 0; i-- {
		if e := t.settle(&h, &way[i-1], way[i].node); e != api.OK {
			return e
		}
	}
	t.settleRoot(&h, way[0].node)
	h.Used--
	return t.setHead(h)
}

// toLeaf: the way, and from a node that is no leaf further down to the greatest pair ahead of the one at which it ended.
func (t Tree) toLeaf(way []step, height int) ([]step, api.Errno) {
	for len(way) < height {
		s := way[len(way)-1]
		n, e := t.node(s.below[s.at].off)
		if e != api.OK {
			return nil, e
		}
		at := n.used // behind its last pair
		if len(way)+1 == height {
			at--
		}
		way = append(way, step{n, at})
	}
	return way, api.OK
}

// settle: the node n, at up's place, has one key less in it or below it, and is written. If it has too few pairs, it is joined with a neighbour; and the two are parted again, in the middle, where that is too much for one.
func (t Tree) settle(h *head, up *step, n node) api.Errno {
	if n.used >= least {
		up.below[up.at].keys--
		return t.write(n)
	}
	at, left, right, e := t.neighbours(up, n)
	if e != api.OK {
		return e
	}
	left.join(up.pairs[at], right)
	if left.used <= most {
		up.remove(at)
		h.Nodes--
		t.arena.Free(right.off)
	} else {
		up.pairs[at], right = left.split(right.off)
		up.below[at+1] = right.branch()
		t.write(right)
	}
	up.below[at] = left.branch()
	return t.write(left)
}

// neighbours: the node n, at up's place, and the one ahead of it (of the first one: that behind it), in their order, and the place of the pair between them.
func (t Tree) neighbours(up *step, n node) (int, node, node, api.Errno) {
	if up.at == 0 {
		right, e := t.node(up.below[1].off)
		return 0, n, right, e
	}
	left, e := t.node(up.below[up.at-1].off)
	return up.at - 1, left, n, e
}

// settleRoot: the root is written. If it has no pair left, the one node below it is the root from now on, or, below a leaf, none.
func (t Tree) settleRoot(h *head, root node) {
	if root.used > 0 {
		t.write(root)
		return
	}
	h.root = root.below[0].off
	h.Height--
	h.Nodes--
	t.arena.Free(root.off)
}

// Cut: the keys from from on and below to are there no more: how many there were.
func (t Tree) Cut(from, to string) (int, api.Errno) {
	first, e := t.Rank(from)
	if e != api.OK {
		return 0, e
	}
	end, _ := t.Rank(to) // like all behind it never refused, as the tree is alive
	n := max(end-first, 0)
	for range n {
		p, _, _ := t.Nth(first)
		t.Delete(p.Key)
	}
	return n, api.OK
}
