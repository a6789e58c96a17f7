package journal

import (
	"larder/api"
	"larder/oracle"
)

const (
	letters   = "larder2\n" // with which a log begins
	wordBytes = 8
	headSeed  = 20 // what the head's sum hangs on beside its bytes
)

// The kinds of a head.
const (
	kindNew   = 0 // its body tells the limit and the overrides of a new store
	kindImage = 1 // its body is a store's image
)

// writer: a row of bytes as far as it is written.
type writer struct{ row []byte }

// head: a log's head of that kind.
func head(kind uint64, body []byte) []byte {
	w := &writer{}
	w.bytes(letters)
	w.word(kind)
	w.counted(string(body))
	return w.sealed(headSeed)
}

// record: a record behind one (or a head) with that sum.
func record(ahead uint64, body []byte) []byte {
	w := &writer{}
	w.counted(string(body))
	return w.sealed(ahead)
}

// beginning: the body of a new store's head.
func beginning(limit int, over []api.Over) []byte {
	w := &writer{}
	w.number(limit)
	w.number(len(over))
	for _, o := range over {
		w.counted(o.Key)
		w.word(o.Hash)
	}
	return w.row
}

// sealed: the row, and its sum behind it.
func (w *writer) sealed(seed uint64) []byte {
	w.word(oracle.Mix(seed, string(w.row)))
	return w.row
}

// list: how many, and so many words.
func (w *writer) list(numbers []int) {
	w.number(len(numbers))
	for _, n := range numbers {
		w.number(n)
	}
}

// counted: how many, and so many bytes.
func (w *writer) counted(s string) {
	w.number(len(s))
	w.bytes(s)
}

// number: a word; one below 0 is taken modulo 2^64, which the conversion does.
func (w *writer) number(n int) { w.word(uint64(n)) }

func (w *writer) word(v uint64) {
	for range wordBytes {
		w.row = append(w.row, byte(v))
		v >>= 8
	}
}

func (w *writer) bytes(s string) { w.row = append(w.row, s...) }
