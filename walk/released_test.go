package walk_test

import (
	"testing"

	"larder/api"
)

// TestReleased: P13.9: of a walk whose map was released: Next and Close hand on ErrDead, Next leaves the walk as it was, Close makes it done, Rest gives nothing; no byte of the arena changes.
func TestReleased(t *testing.T) {
	eachStage(t, func(w *world, x *pair) {
		var walks []*stroll
		for at := range 5 {
			s := w.open(x, uint64(at), uint64(at))
			for range at {
				w.next(s)
			}
			walks = append(walks, s)
		}
		w.fill(x, 70, 20) // so that some stand on retired ones
		w.release(x)
		was := look(w.t, w.a)
		for _, s := range walks {
			if s.done {
				w.next(s) // a walk that is done does not ask its map
				w.close(s)
				continue
			}
			for range 2 {
				if p, yes, e := s.w.Next(); p != (api.Pair{}) || yes || e != api.ErrDead || s.w.Done() {
					w.t.Fatalf("P13.9: Next of a released map = %q, %v, error %d; done: %v", p, yes, e, s.w.Done())
				}
				for k := range s.w.Rest() {
					w.t.Fatalf("P13.9: the Rest of a released map gives %q", k)
				}
			}
			if e := s.w.Close(); e != api.ErrDead || !s.w.Done() {
				w.t.Fatalf("P13.9: Close of a released map: error %d; done: %v", e, s.w.Done())
			}
			if e := s.w.Close(); e != api.OK {
				w.t.Fatalf("P13.4: Close of a done walk: error %d", e)
			}
			if p, yes, e := s.w.Next(); p != (api.Pair{}) || yes || e != api.OK {
				w.t.Fatalf("P13.2: Next of a done walk = %q, %v, error %d", p, yes, e)
			}
		}
		like(w.t, "P13.9: the calls of a released map's walks", w.a, was)
	})
}

// TestOthersGoOn: W2: a released map's walks are seen in no other: another map of the same arena, and its walks, go on.
func TestOthersGoOn(t *testing.T) {
	l := lay(t, descriptors[0])
	w := begin(t, 1<<18, l, ask(t))
	x, y := w.make(l, 7, 0), w.make(l, 8, 0)
	w.fill(x, 1, 30)
	w.fill(y, 1, 30)
	gone, stays := w.open(x, 1, 1), w.open(y, 1, 1)
	w.next(gone)
	w.next(stays)
	w.release(x)
	if _, _, e := gone.w.Next(); e != api.ErrDead {
		t.Fatalf("P13.9: Next of a released map: error %d", e)
	}
	w.next(stays)
	w.fill(y, 40, 20)
	if e := gone.w.Close(); e != api.ErrDead {
		t.Fatalf("P13.9: Close of a released map: error %d", e)
	}
	w.through(stays)
	if len(stays.yielded) != 30 {
		t.Fatalf("P13.6: %d pairs, want 30", len(stays.yielded))
	}
	w.unpinned(y)
}
