package order

import (
	"fmt"

	"larder/api"
	"larder/arena"
)

// PairsAt: where a node tells how many pairs it has, counted from its start.
const PairsAt = pairsWord * wordSize

// Root: where the root lies, or 0.
func Root(t Tree) int {
	h, _ := t.head()
	return h.root
}

// Broken: the first thing in the tree's own blocks that is not as P26.8 says, looked at from within; "" if all is.
func Broken(t Tree) string {
	h, e := t.head()
	if e != api.OK {
		return fmt.Sprint("a header is refused: ", e)
	}
	l := look{tree: t, most: arena.Class(192 + 8*t.lay.Slot), seen: map[int]bool{}}
	if h.Height == 0 && h.root != 0 {
		l.say("a root in a tree without nodes")
	}
	used := 0
	if h.Height > 0 {
		used = l.node(h.root, h.Height, true)
	}
	if used != h.Used || len(l.seen) != h.Nodes {
		l.say(fmt.Sprintf("%d pairs and %d nodes, the header says %v", used, len(l.seen), h.OrderStat))
	}
	return l.told
}

// look: what a look over a tree has come to.
type look struct {
	tree Tree
	most int // bytes of a node's block
	seen map[int]bool
	last *string // the key ahead
	told string
}

func (l *look) say(what string) {
	if l.told == "" {
		l.told = what
	}
}

// node: how many keys there are in the node and below it.
func (l *look) node(off, levels int, root bool) int {
	n, e := l.tree.node(off)
	if e != api.OK || l.seen[off] {
		l.say(fmt.Sprintf("the node at %d: error %d, or it is there twice", off, e))
		return 0
	}
	l.seen[off] = true
	size, e := l.tree.arena.Size(off)
	if e != api.OK || size > l.most {
		l.say(fmt.Sprintf("the block at %d: %d bytes, error %d", off, size, e))
	}
	if n.used > 7 || n.used < 3 && !root || n.used < 1 {
		l.say(fmt.Sprintf("the node at %d has %d pairs", off, n.used))
	}
	keys := n.used
	for i := range n.used + 1 {
		keys += l.branch(n, i, levels-1)
		if i < n.used {
			l.key(n.pairs[i].Key)
		}
	}
	return keys
}

// branch: how many keys there are below a node, at that branch.
func (l *look) branch(n node, i, levels int) int {
	b := n.below[i]
	if levels == 0 {
		if b != (branch{}) {
			l.say(fmt.Sprintf("the leaf at %d has a node below it", n.off))
		}
		return 0
	}
	keys := l.node(b.off, levels, false)
	if keys != b.keys {
		l.say(fmt.Sprintf("branch %d of the node at %d has %d keys, not %d", i, n.off, keys, b.keys))
	}
	return keys
}

func (l *look) key(key string) {
	if len(key) != l.tree.lay.Key || l.last != nil && key <= *l.last {
		l.say(fmt.Sprintf("the key %q out of order", key))
	}
	l.last = &key
}
