package store

import (
	"slices"

	"larder/api"
)

// book: what is kept behind handles. A handle is never given again, so one that was given and has nothing behind it is dead: the dead need no list.
type book[T any] struct {
	next   int // the handle that will be given next
	things map[int]T
}

func newBook[T any](next int) book[T] {
	return book[T]{next: next, things: map[int]T{}}
}

// find: what is kept behind a handle.
func (b *book[T]) find(h int) (T, api.Errno) {
	thing, live := b.things[h]
	switch {
	case h < 1 || h >= b.next:
		return thing, api.ErrHandle
	case !live:
		return thing, api.ErrGone
	}
	return thing, api.OK
}

// add: the thing is kept behind the next handle: that handle.
func (b *book[T]) add(thing T) int {
	h := b.next
	b.next++
	b.keep(h, thing)
	return h
}

// keep: the thing is kept behind a handle that was given.
func (b *book[T]) keep(h int, thing T) { b.things[h] = thing }

// takeOut: the handle is dead.
func (b *book[T]) takeOut(h int) { delete(b.things, h) }

// handles: all that are not dead, rising.
func (b *book[T]) handles() []int {
	var hs []int
	for h := range b.things {
		hs = append(hs, h)
	}
	slices.Sort(hs)
	return hs
}
