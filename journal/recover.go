package journal

import (
	"bytes"

	"larder/api"
	"larder/image"
	"larder/store"
)

// Recover: the journal of a log that may be cut off or spoilt: its longest good beginning; and how many commands that has.
func Recover(log []byte) (*Journal, int, api.Errno) {
	r := &reader{row: log}
	s, e := r.begun()
	if e != api.OK {
		return nil, 0, e
	}
	j := &Journal{s, bytes.Clone(log[:r.at])}
	n := 0
	for c, good := r.record(j.sum()); good; c, good = r.record(j.sum()) {
		j.Do(c) // it writes the record again: a form has one row of bytes alone
		n++
	}
	return j, n, api.OK
}

// record: the command of the next record, if that one is good behind one (or a head) with that sum.
func (r *reader) record(ahead uint64) (api.Cmd, bool) {
	body, right := r.sealed(r.at, ahead)
	if !right {
		return api.Cmd{}, false
	}
	return command(body)
}

// begun: the store with which the log begins, by its head.
func (r *reader) begun() (*store.Store, api.Errno) {
	first := string(r.take(uint64(len(letters))))
	kind := r.word()
	body, right := r.sealed(0, headSeed)
	switch {
	case first != letters || !right:
		return nil, api.ErrLog
	case kind == kindNew:
		return newStore(body)
	case kind == kindImage:
		return loaded(body)
	}
	return nil, api.ErrLog
}

// newStore: the store of which a head's body tells the limit and the overrides.
func newStore(body []byte) (*store.Store, api.Errno) {
	r := &reader{row: body}
	limit, over := r.number(), r.overrides()
	if !r.whole() {
		return nil, api.ErrLog
	}
	return store.New(limit, over...)
}

// loaded: the store of the image that a head's body is.
func loaded(body []byte) (*store.Store, api.Errno) {
	s, e := image.Load(body)
	if e == api.ErrImage {
		return nil, api.ErrLog
	}
	return s, e
}
