package image

import "larder/api"

const (
	head      = "larder1\n"
	wordBytes = 8
)

// The second word of a part.
const (
	notLive = 0
	live    = 1
)

// writer: an image's bytes as far as they are written.
type writer struct{ row []byte }

// written: the image that says this.
func written(c content) []byte {
	w := &writer{}
	w.bytes(head)
	w.number(c.limit)
	w.overrides(c.hold.Over)
	w.number(c.hold.Next)
	w.maps(c.hold.Maps)
	w.parts(c.parts)
	w.counted(c.bytes)
	w.word(Sum(w.row))
	return w.row
}

func (w *writer) overrides(over []api.Over) {
	w.number(len(over))
	for _, o := range over {
		w.counted(o.Key)
		w.word(o.Hash)
	}
}

func (w *writer) maps(maps []api.Kept) {
	w.number(len(maps))
	for _, k := range maps {
		w.number(k.Handle)
		w.number(k.Root.Off)
		w.descriptor(k.Root.Layout)
	}
}

// descriptor: the five numbers of which layout.Parse makes all the others.
func (w *writer) descriptor(l api.Layout) {
	for _, n := range [...]int{l.Key, l.Elem, l.KeyAlign, l.ElemAlign, l.Cap} {
		w.number(n)
	}
}

// parts: their offsets are not written, as each begins where the one ahead of it ends.
func (w *writer) parts(parts []api.Part) {
	w.number(len(parts))
	for _, p := range parts {
		w.number(p.Size)
		if p.Live {
			w.word(live)
		} else {
			w.word(notLive)
		}
	}
}

// counted: a count, and so many bytes.
func (w *writer) counted(s string) {
	w.number(len(s))
	w.bytes(s)
}

// number: a word; one below 0 is taken modulo 2^64, which the conversion does.
func (w *writer) number(n int) { w.word(uint64(n)) }

func (w *writer) word(v uint64) {
	for range wordBytes {
		w.row = append(w.row, byte(v))
		v >>= 8
	}
}

func (w *writer) bytes(s string) { w.row = append(w.row, s...) }
