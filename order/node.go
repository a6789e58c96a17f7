package order

import "larder/api"

const (
	least = 3            // pairs of a node that is not the root
	most  = 7            // pairs of any node
	room  = least + most // pairs that come together at most, where a node with one too few is joined with its neighbour
)

// A node's words, in the order in which they lie: how many pairs it has; then of each branch the offset and the keys. Behind them lie the places for the pairs: slots without a birth.
const (
	wordSize   = 8
	pairsWord  = 0
	branchWord = 1
	placesAt   = (branchWord + 2*(most+1)) * wordSize
)

// branch: a node below another one: where it lies, and how many keys there are in it and further down. In a leaf both are 0.
type branch struct{ off, keys int }

// node: places for pairs, in the order of their keys, and for branches: one ahead of each pair, and one behind the last. It is read whole, changed, and written whole.
type node struct {
	off   int
	used  int // so many pairs
	pairs [room]api.Pair
	below [room + 1]branch
}

// nodeSize: the bytes that a node takes.
func (t Tree) nodeSize() int { return t.placeAt(most) }

// placeAt: where the place for the pair of that number begins, counted from the node's start.
func (t Tree) placeAt(i int) int { return placesAt + i*t.lay.BirthOff }

// node: the one at off. (One that other hands have written might have more pairs than there are places, or none: it is refused.)
func (t Tree) node(off int) (node, api.Errno) {
	row, e := t.arena.Read(off, t.nodeSize())
	if e != api.OK {
		return node{}, e
	}
	n := node{off: off, used: number(row, pairsWord)}
	if n.used < 1 || n.used > most {
		return node{}, api.ErrDead
	}
	for i := range n.used {
		place := row[t.placeAt(i):]
		n.pairs[i] = api.Pair{Key: place[:t.lay.Key], Elem: place[t.lay.ElemOff:][:t.lay.Elem]}
	}
	for i := range n.used + 1 {
		n.below[i] = branch{off: number(row, branchWord+2*i), keys: number(row, branchWord+2*i+1)}
	}
	return n, api.OK
}

// write: lays the node. Places that it doesn't use are zero.
func (t Tree) write(n node) api.Errno {
	row := make([]byte, t.nodeSize())
	lay(row, pairsWord, n.used)
	for i, b := range n.below[:n.used+1] {
		lay(row, branchWord+2*i, b.off)
		lay(row, branchWord+2*i+1, b.keys)
	}
	for i, p := range n.pairs[:n.used] {
		copy(row[t.placeAt(i):], p.Key)
		copy(row[t.placeAt(i)+t.lay.ElemOff:], p.Elem)
	}
	return t.arena.Write(n.off, string(row))
}

// branch: the node, as it stands in the one above it.
func (n *node) branch() branch {
	keys := n.used
	for _, b := range n.below[:n.used+1] {
		keys += b.keys
	}
	return branch{off: n.off, keys: keys}
}

// insert: the pair comes to place i, and behind it that branch.
func (n *node) insert(i int, p api.Pair, behind branch) {
	copy(n.pairs[i+1:], n.pairs[i:n.used])
	copy(n.below[i+2:], n.below[i+1:n.used+1])
	n.pairs[i], n.below[i+1] = p, behind
	n.used++
}

// remove: the pair at place i is there no more, nor the branch behind it.
func (n *node) remove(i int) {
	copy(n.pairs[i:], n.pairs[i+1:n.used])
	copy(n.below[i+1:], n.below[i+2:n.used+1])
	n.used--
}

// join: behind its own it has that pair and all of its neighbour's.
func (n *node) join(between api.Pair, right node) {
	n.insert(n.used, between, right.below[0])
	for i, p := range right.pairs[:right.used] {
		n.insert(n.used, p, right.below[i+1])
	}
}

// split: it keeps the lower half. The pair in the middle is answered, and a node at off with the rest.
func (n *node) split(off int) (api.Pair, node) {
	half := n.used / 2
	right := node{off: off, used: n.used - half - 1}
	copy(right.pairs[:], n.pairs[half+1:n.used])
	copy(right.below[:], n.below[half+1:n.used+1])
	n.used = half
	return n.pairs[half], right
}

// number: a row's word of that number, its lowest byte first, as the arena's Load reads it.
func number(row string, word int) int {
	v := uint64(0)
	for i := range wordSize {
		v |= uint64(row[word*wordSize+i]) << (8 * i)
	}
	return int(v)
}

// lay: lays a row's word of that number.
func lay(row []byte, word, v int) {
	for i := range wordSize {
		row[word*wordSize+i] = byte(v >> (8 * i))
	}
}
