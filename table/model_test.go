package table_test

import (
	"fmt"
	"math/rand"
	"testing"

	"larder/api"
)

// tally: what has happened in a run, so that a run in which little happens is told.
type tally struct {
	replaced, empty, deleted, noRoom  int // by puts
	toEmpty, toDeleted, nothing, wide int // by deletes; wide: ways of more than one group
}

// drawn: a hash of few: ways cross, tags are shared.
func drawn(r *rand.Rand) uint64 {
	homes := []uint64{0, 1, 2, 5, 1<<57 - 1}
	return hash(homes[r.Intn(len(homes))], []int{0, 5, 127}[r.Intn(3)])
}

// hashOf: the hash of a key by its number, for runs in which a key has one hash.
func hashOf(key int) uint64 {
	return hash([]uint64{0, 1, 2, 5, 1<<57 - 1}[key%5], []int{0, 5, 127}[key%3])
}

// putCounted: a put, and what it did.
func (b *bench) putCounted(n *tally, h uint64, key, elem, birth int) {
	b.t.Helper()
	if len(b.p.way(h)) > 1 {
		n.wide++
	}
	left := b.p.left
	switch out := b.put(h, key, elem, birth); {
	case out == api.PutReplaced:
		n.replaced++
	case out == api.PutNoRoom:
		n.noRoom++
	case b.p.left < left:
		n.empty++
	default:
		n.deleted++
	}
}

// deleteCounted: a delete, and what it did.
func (b *bench) deleteCounted(n *tally, h uint64, key string) {
	b.t.Helper()
	left := b.p.left
	switch was := b.deleteText(h, key); {
	case !was:
		n.nothing++
	case b.p.left > left:
		n.toEmpty++
	default:
		n.toDeleted++
	}
}

// step: one call, more often a put while it is filled and a delete while it is emptied.
func (b *bench) step(r *rand.Rand, n *tally, filling bool, h uint64, key int) string {
	b.t.Helper()
	put := 20
	if filling {
		put = 70
	}
	switch at := r.Intn(100); {
	case at < put:
		b.putCounted(n, h, key, r.Intn(200), r.Intn(1<<40))
		return fmt.Sprintf("Put of key %d with %#x", key, h)
	case at < 80:
		b.deleteCounted(n, h, text(b.l.Key, key))
		return fmt.Sprintf("Delete of key %d with %#x", key, h)
	case at < 95 && len(b.fulls()) > 0:
		slot := b.fulls()[r.Intn(len(b.fulls()))].slot
		b.deleteCounted(n, b.p.hashes[slot], b.p.cells[slot].Key)
		return fmt.Sprintf("Delete of what slot %d held", slot)
	}
	return b.aside(r)
}

// aside: one of the calls that change the header alone, or that are refused.
func (b *bench) aside(r *rand.Rand) string {
	b.t.Helper()
	key, elem := text(b.l.Key, 1), text(b.l.Elem, 1)
	switch r.Intn(7) {
	case 0:
		b.pin(r.Intn(5) - min(2, b.p.pins))
		return "Pin"
	case 1:
		b.p.next = int(r.Uint64())
		answers(b.t, "P8.13: SetNext", b.tb.SetNext(b.p.next), api.OK)
		return "SetNext"
	case 2:
		b.addLeft(r.Intn(b.p.room()+1) - b.p.left)
		return "AddLeft"
	case 3:
		b.addLeft(b.p.room() - b.p.left)
		return "AddLeft to the greatest room"
	case 4:
		refuses(b.t, named("Put"), b.tb, args{h: drawn(r), key: key + "k", elem: elem}, api.ErrKeyWidth)
	case 5:
		refuses(b.t, named("Put"), b.tb, args{h: drawn(r), key: key, elem: elem + "e", birth: -1}, api.ErrElemWidth)
	case 6:
		refuses(b.t, named("AddLeft"), b.tb, args{n: b.p.room() - b.p.left + 1}, api.ErrRoom)
	}
	return "a refused call"
}

// run: so many steps; all bytes and all answers are looked at behind each.
func (b *bench) run(r *rand.Rand, n *tally, steps int, hashFor func(key int) uint64) {
	b.t.Helper()
	slots := len(b.p.cells)
	keys := slots * 3 / 2
	for i := range steps {
		key := 1 + r.Intn(keys)
		what := b.step(r, n, i/(50+2*slots)%2 == 0, hashFor(key), key)
		b.holds("P8.4 to P8.15: " + what)
		b.finds(what, drawn(r), text(b.l.Key, 1+r.Intn(keys)))
		b.unmixed(what)
	}
}

// unmixed: no group holds empty and deleted slots at one time.
func (b *bench) unmixed(what string) {
	b.t.Helper()
	for i := range len(b.p.cells) / 8 {
		kinds := map[int]int{}
		for s := 8 * i; s < 8*i+8; s++ {
			c, _ := b.tb.Cell(s)
			kinds[c.Kind]++
		}
		if kinds[api.CellEmpty] > 0 && kinds[api.CellDeleted] > 0 {
			b.t.Fatalf("%s: P8.9: group %d has %d empty slots and %d deleted ones", what, i, kinds[api.CellEmpty], kinds[api.CellDeleted])
		}
	}
}

// enough: each of the things that can happen has happened often. (In a table of one group no slot is ever deleted, and no way has a second group.)
func (n tally) enough(t *testing.T, slots int) {
	t.Helper()
	if min(n.replaced, n.empty, n.noRoom, n.toEmpty, n.nothing) < 30 || slots > 8 && min(n.deleted, n.toDeleted, n.wide) < 30 {
		t.Errorf("the run is too tame: %+v of %d slots", n, slots)
	}
}

// runs: each layout with each size.
func runs(t *testing.T, r *rand.Rand, steps int, hashFor func(key int) uint64) {
	t.Helper()
	happened := map[int]*tally{8: {}, 16: {}, 64: {}}
	benches(t, func(b *bench) { b.run(r, happened[len(b.p.cells)], steps, hashFor) })
	for slots, n := range happened {
		n.enough(t, slots)
	}
}

// TestCallByCall: any key with any of a few hashes, against the plain table.
func TestCallByCall(t *testing.T) {
	r := rand.New(rand.NewSource(8))
	runs(t, r, 360, func(int) uint64 { return drawn(r) })
}

// TestCallByCallByHash: each key with a hash of its own.
func TestCallByCallByHash(t *testing.T) {
	runs(t, rand.New(rand.NewSource(88)), 360, hashOf)
}

// TestWhatWasPutIsFound: by a list of keys and slots alone, which knows nothing of ways: what was put and not deleted is found with its hash, in the slot that it had; what was deleted is not.
func TestWhatWasPutIsFound(t *testing.T) {
	r := rand.New(rand.NewSource(888))
	for _, slots := range sizes {
		b := set(t, descriptors[3], slots, 0)
		had := map[int]int{}
		for i := range 4000 {
			key := r.Intn(slots * 3 / 2)
			h, name := hashOf(key), text(b.l.Key, 1+key)
			if r.Intn(10) < 4+3*(i/200%2) {
				out, e := b.tb.Put(h, name, text(b.l.Elem, 1), i)
				answers(t, "P8.7: Put", e, api.OK)
				if _, known := had[key]; known != (out == api.PutReplaced) {
					t.Fatalf("P8.9: Put of key %d, there: %v: outcome %d", key, known, out)
				}
				if out == api.PutAdded {
					had[key], _ = b.tb.Find(h, name)
				}
			} else {
				was, e := b.tb.Delete(h, name)
				answers(t, "P8.8: Delete", e, api.OK)
				if _, known := had[key]; known != was {
					t.Fatalf("P8.9: Delete of key %d, there: %v: %v", key, known, was)
				}
				delete(had, key)
			}
			for key := range slots * 3 / 2 {
				want, known := had[key]
				if !known {
					want = -1
				}
				if n, e := b.tb.Find(hashOf(key), text(b.l.Key, 1+key)); n != want || e != api.OK {
					t.Fatalf("P8.9: key %d of %d slots is in slot %d, error %d, want %d", key, slots, n, e, want)
				}
			}
		}
	}
}
