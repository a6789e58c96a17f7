package small_test

import (
	"fmt"
	"math"
	"math/rand"
	"testing"

	"larder/api"
)

// tally: what has happened in a run, so that a run in which little happens is told.
type tally struct{ replaced, added, noRoom, deleted, nothing, promoted int }

// step: one call, more often a put while it is filled and a delete while it is emptied.
func (b *bench) step(r *rand.Rand, n *tally, filling bool) string {
	b.t.Helper()
	tag, key := []int{0, 5, 127}[r.Intn(3)], 1+r.Intn(6)
	put := 25
	if filling {
		put = 60
	}
	switch at := r.Intn(100); {
	case at < put:
		switch b.put(tag, key, r.Intn(200), r.Intn(math.MaxInt)) {
		case api.PutReplaced:
			n.replaced++
		case api.PutAdded:
			n.added++
		default:
			n.noRoom++
		}
		return fmt.Sprintf("Put of key %d with tag %d", key, tag)
	case at < 80:
		if b.delete(tag, key) {
			n.deleted++
		} else {
			n.nothing++
		}
		return fmt.Sprintf("Delete of key %d with tag %d", key, tag)
	case at < 84:
		n.promoted++
		tb := b.promotes("P11.7", ask(b.t), r.Uint64())
		answers(b.t, "Free of the table", tb.Free(), api.OK)
		b.around.end, b.around.parts = b.a.End(), b.a.Parts()
		return "Promote"
	}
	return b.aside(r)
}

// aside: one of the calls that change the header alone, or that are refused.
func (b *bench) aside(r *rand.Rand) string {
	b.t.Helper()
	key, elem := text(b.l.Key, 1), text(b.l.Elem, 1)
	switch r.Intn(8) {
	case 0:
		b.pin(r.Intn(5) - min(2, b.p.pins))
		return "Pin"
	case 1:
		b.p.next = int(r.Uint64())
		answers(b.t, "P11.8: SetNext", b.s.SetNext(b.p.next), api.OK)
		return "SetNext"
	case 2:
		b.p.kind, b.p.next = api.KindSmallRetired, int(r.Uint64())
		answers(b.t, "P11.8: Retire", b.s.Retire(b.p.next), api.OK)
		return "Retire"
	case 3:
		b.refuses("Put", args{tag: 128, key: key + "k", elem: elem}, api.ErrKeyWidth)
	case 4:
		b.refuses("Put", args{tag: -1, key: key, elem: elem + "e", birth: -1}, api.ErrElemWidth)
	case 5:
		b.refuses("Put", args{tag: 128, key: key, elem: elem, birth: -1}, api.ErrTag)
	case 6:
		b.refuses("Pin", args{n: -b.p.pins - 1}, api.ErrPins)
	case 7:
		b.refuses("Delete", args{tag: -1, key: key}, api.ErrTag)
	}
	return "a refused call"
}

// TestCallByCall: few keys with few tags, against the plain one; all bytes and all answers are looked at behind each call.
func TestCallByCall(t *testing.T) {
	r := rand.New(rand.NewSource(11))
	benches(t, func(b *bench) {
		var n tally
		for i := range 1500 {
			what := b.step(r, &n, i/60%2 == 0)
			b.holds("P11.2 to P11.10: " + what)
			b.finds(what, r.Intn(128), text(b.l.Key, r.Intn(9)))
		}
		if min(n.replaced, n.added, n.noRoom, n.deleted, n.nothing, n.promoted) < 20 {
			t.Errorf("the run is too tame: %+v", n)
		}
	})
}
