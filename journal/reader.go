package journal

import (
	"larder/api"
	"larder/oracle"
)

// reader: goes over a row of bytes. Where the row ends too early it stays short, and reads nothing but zeros from then on.
type reader struct {
	row   []byte
	at    int // so many bytes have been read
	short bool
}

// whole: has the row been read from its first byte to its last?
func (r *reader) whole() bool { return !r.short && r.at == len(r.row) }

// sealed: a counted body, if the sum behind it is right: the one of all bytes from that place on.
func (r *reader) sealed(from int, seed uint64) ([]byte, bool) {
	body := r.counted()
	covered := r.row[from:r.at]
	sum := r.word()
	if r.short {
		return nil, false
	}
	return body, sum == oracle.Mix(seed, string(covered))
}

// A count may be far greater than what follows it: the lists grow as their things are met, and their reading ends where the row does.

func (r *reader) overrides() []api.Over {
	var over []api.Over
	for n := r.word(); n > 0 && !r.short; n-- {
		over = append(over, api.Over{Key: r.text(), Hash: r.word()})
	}
	return over
}

func (r *reader) list() []int {
	var numbers []int
	for n := r.word(); n > 0 && !r.short; n-- {
		numbers = append(numbers, r.number())
	}
	return numbers
}

// counted: how many, and so many bytes.
func (r *reader) counted() []byte { return r.take(r.word()) }

// text: a counted row, in memory of its own.
func (r *reader) text() string { return string(r.counted()) }

// number: a word, read as one that may be below 0.
func (r *reader) number() int { return int(r.word()) }

func (r *reader) word() uint64 {
	v := uint64(0)
	for i, b := range r.take(wordBytes) {
		v |= uint64(b) << (8 * i)
	}
	return v
}

// take: the next n bytes.
func (r *reader) take(n uint64) []byte {
	if r.short || n > uint64(len(r.row)-r.at) {
		r.short = true
		return nil
	}
	from := r.at
	r.at += int(n)
	return r.row[from:r.at]
}
