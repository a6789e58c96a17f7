package larder

import (
	"larder/api"
	"larder/journal"
	"larder/script"
	"larder/store"
)

// run: a script's commands as they are done, one behind the other.
type run struct {
	store   *store.Store // there to be looked at: what is done to it is done by do, as it may be written down
	do      func(api.Cmd) api.Answer
	log     func() []byte // nil: nothing is written down
	answers []api.Answer
}

// beginning: how a run begins with a script, of which no command is done yet.
type beginning func(api.Script) (*run, api.Errno)

func newStore(s api.Script) (*run, api.Errno) { return onStore(store.New(s.Limit, s.Over...)) }

func newJournal(s api.Script) (*run, api.Errno) {
	j, e := journal.Begin(s.Limit, s.Over...)
	if e != api.OK {
		return nil, e
	}
	return onJournal(j), api.OK
}

// onStore: a run on a store, if there is one.
func onStore(s *store.Store, e api.Errno) (*run, api.Errno) {
	if e != api.OK {
		return nil, e
	}
	return &run{store: s, do: func(c api.Cmd) api.Answer { return script.Play(s, c) }}, api.OK
}

// onJournal: a run whose commands are written down.
func onJournal(j *journal.Journal) *run { return &run{store: j.Store(), do: j.Do, log: j.Log} }

// played: what is told of a run, behind the last of the script's commands.
func played[T any](s api.Script, begin beginning, tell func(*run) T) (told T, e api.Errno) {
	r, e := begin(s)
	if e != api.OK {
		return told, e
	}
	defer r.releaseAll()
	for _, c := range s.Cmds {
		r.answers = append(r.answers, r.do(c))
	}
	return tell(r), api.OK
}

// read: the same of a script's text; else the line (from 1 on) and the error. A refusal that comes behind the text's own has no line.
func read[T any](text string, begin beginning, tell func(*run) T) (told T, line int, e api.Errno) {
	s, line, e := script.Parse(text)
	if e != api.OK {
		return told, line, e
	}
	told, e = played(s, begin, tell)
	return told, 0, e
}

func (r *run) releaseAll() { r.release(r.store.Handles()) }

func (r *run) release(hs []int) { r.do(api.Cmd{Op: api.OpRelease, Hs: hs}) }
