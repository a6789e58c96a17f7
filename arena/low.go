package arena

// lowFirst: offsets of free blocks of one class, as a heap of which the lowest is taken first. (A sorted list would be moved whole at many a Free.)
type lowFirst []int

// Len: how many offsets there are.
func (l *lowFirst) Len() int { return len(*l) }

// Less: does the offset at place i come ahead of that at j?
func (l *lowFirst) Less(i, j int) bool { return (*l)[i] < (*l)[j] }

// Swap: changes places.
func (l *lowFirst) Swap(i, j int) { (*l)[i], (*l)[j] = (*l)[j], (*l)[i] }

// Push: the heap's package lays a new offset last, and sorts it in.
func (l *lowFirst) Push(off any) { *l = append(*l, off.(int)) }

// Pop: the heap's package has laid the lowest last, to be taken off.
func (l *lowFirst) Pop() any {
	last := len(*l) - 1
	off := (*l)[last]
	*l = (*l)[:last]
	return off
}
