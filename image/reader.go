package image

import (
	"larder/api"
	"larder/layout"
)

// noImage: what the reader gives up with, however deep it is: the bytes are not of the form.
type noImage struct{}

// reader: the bytes that it has not gone over yet.
type reader struct{ rest []byte }

// read: what the bytes say, and the sum that they end with.
func read(b []byte) (content, uint64) {
	r := &reader{b}
	r.must(string(r.take(uint64(len(head)))) == head)
	c := content{limit: r.number()}
	c.hold.Over = r.overrides()
	c.hold.Next = r.number()
	c.hold.Maps = r.maps()
	c.parts = r.parts()
	c.bytes = r.counted()
	sum := r.word()
	r.must(len(r.rest) == 0)
	return c, sum
}

// The lists grow as their things are met: a count may be far greater than what follows it, and then the bytes end too early.

func (r *reader) overrides() []api.Over {
	var list []api.Over
	for range r.word() {
		key := r.counted()
		list = append(list, api.Over{Key: key, Hash: r.word()})
	}
	return list
}

func (r *reader) maps() []api.Kept {
	var list []api.Kept
	for range r.word() {
		handle, off := r.number(), r.number()
		list = append(list, api.Kept{Handle: handle, Root: api.Root{Off: off, Layout: r.layout()}})
	}
	return list
}

// layout: that of the next five numbers; where Parse refuses them it answers zeros, which no store takes for a layout.
func (r *reader) layout() api.Layout {
	var fields [5]int
	for i := range fields {
		fields[i] = r.number()
	}
	l, _ := layout.Parse(fields[:]...)
	return l
}

// parts: a size that is no class may carry the next offset anywhere, round 2^64 too: the arena refuses the size.
func (r *reader) parts() []api.Part {
	var list []api.Part
	off := api.First
	for range r.word() {
		size := r.number()
		list = append(list, api.Part{Off: off, Size: size, Live: r.flag()})
		off += size
	}
	return list
}

// flag: is the next word, which must be one of two, the one of a live part?
func (r *reader) flag() bool {
	v := r.word()
	r.must(v == live || v == notLive)
	return v == live
}

// counted: a count, and so many bytes.
func (r *reader) counted() string { return string(r.take(r.word())) }

// number: a word, read as one that may be below 0.
func (r *reader) number() int { return int(r.word()) }

func (r *reader) word() uint64 {
	v := uint64(0)
	for i, b := range r.take(wordBytes) {
		v |= uint64(b) << (8 * i)
	}
	return v
}

// take: the next n bytes.
func (r *reader) take(n uint64) []byte {
	r.must(n <= uint64(len(r.rest)))
	taken := r.rest[:n]
	r.rest = r.rest[n:]
	return taken
}

// must: the bytes are of the form in this, or the reader gives up.
func (r *reader) must(holds bool) {
	if !holds {
		panic(noImage{})
	}
}
