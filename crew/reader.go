package crew

import (
	"slices"

	"larder/api"
	"larder/script"
	"larder/store"
)

// reader: who plays one job. What it answers hangs on no handle that the store gives meanwhile: which one that is hangs on the schedule.
type reader struct {
	store *store.Store
	known int   // the next handle when Read began: the handles from 1 on below it are known
	walks []int // the handles of the walks that were opened, in that order; 0: the walk is released
}

// play: the answer to a reading command.
func (r *reader) play(c api.Cmd) api.Answer {
	switch c.Op {
	case api.OpNext:
		return r.next(c.H)
	case api.OpRelease:
		return api.Answer{Op: c.Op, Err: r.release(c.Hs)}
	}
	if c.H < 1 || c.H >= r.known {
		return api.Answer{Op: c.Op, Err: api.ErrHandle}
	}
	a := script.Play(r.store, c)
	if c.Op == api.OpOpen && a.Err == api.OK {
		r.walks = append(r.walks, a.N)
		a.N = -len(r.walks)
	}
	return a
}

// next: the next pair of the walk that this job knows by the number n.
func (r *reader) next(n int) api.Answer {
	if e := r.refused(n); e != api.OK {
		return api.Answer{Op: api.OpNext, Err: e}
	}
	return script.Play(r.store, api.Cmd{Op: api.OpNext, H: r.walks[place(n)]})
}

// release: the walks of these numbers are released, all or none.
func (r *reader) release(numbers []int) api.Errno {
	for _, n := range numbers {
		if e := r.refused(n); e != api.OK {
			return e
		}
	}
	rising := slices.Sorted(slices.Values(numbers))
	if len(slices.Compact(rising)) < len(numbers) {
		return api.ErrAgain
	}
	for _, n := range numbers {
		r.drop(place(n))
	}
	return api.OK
}

// refused: why the number n names no walk of this job; OK: it names one.
func (r *reader) refused(n int) api.Errno {
	switch i := place(n); {
	case i >= len(r.walks):
		return api.ErrHandle
	case r.walks[i] == 0:
		return api.ErrGone
	}
	return api.OK
}

// place: where the walk of a number below 0 stands among the walks: -1 is the first. (The least number of all has no opposite.)
func place(n int) int { return -(n + 1) }

// drop: the walk at that place is released. (Each for itself, whatever the store answers: where someone else has released its map, it is gone already.)
func (r *reader) drop(i int) {
	r.store.Release(r.walks[i])
	r.walks[i] = 0
}

// leave: no walk of this job is left.
func (r *reader) leave() {
	for i, h := range r.walks {
		if h != 0 {
			r.drop(i)
		}
	}
}
