package group_test

import (
	"fmt"
	"math/rand"
	"testing"

	"larder/api"
)

// few: keys, elems and tags are drawn from few, so that equal ones often meet.
const few = 3

// step: one call, with arguments that are wrong now and then; the bench's cells are changed as the chapter says.
func (b *bench) step(r *rand.Rand) string {
	b.t.Helper()
	x := args{r.Intn(8), []int{0, 126, 127}[r.Intn(few)], text(b.l.Key, r.Intn(few)), text(b.l.Elem, r.Intn(few)), births[r.Intn(len(births))]}
	if r.Intn(8) == 0 {
		b.spoil(r, &x)
	}
	c := calls[r.Intn(len(calls))]
	what := fmt.Sprintf("%s of slot %d", c.name, x.i)
	want := c.refusal(b.l, x)
	if want == api.OK && c.name == "SetElem" && b.cells[x.i].Kind != api.CellFull {
		want = api.ErrVacant
	}
	_, e := c.do(b.g, x)
	answers(b.t, what, e, want)
	if want == api.OK {
		b.does(c.name, x)
	}
	return what
}

// spoil: one or two of the arguments are wrong.
func (b *bench) spoil(r *rand.Rand, x *args) {
	for range 1 + r.Intn(2) {
		switch r.Intn(5) {
		case 0:
			x.i = noSlot[r.Intn(len(noSlot))]
		case 1:
			x.tag = noTag[r.Intn(len(noTag))]
		case 2:
			x.key += "k"
		case 3:
			x.elem += "e"
		case 4:
			x.birth = noBirth[r.Intn(len(noBirth))]
		}
	}
}

// does: what a call with right arguments does to the cells.
func (b *bench) does(name string, x args) {
	switch name {
	case "Reset":
		b.cells = [8]api.Cell{}
	case "Fill":
		b.cells[x.i] = api.Cell{Kind: api.CellFull, Tag: x.tag, Key: x.key, Elem: x.elem, Birth: x.birth}
	case "SetElem":
		b.cells[x.i].Elem = x.elem
	case "Erase to deleted":
		b.cells[x.i] = api.Cell{Kind: api.CellDeleted}
	case "Erase to empty":
		b.cells[x.i] = api.Cell{}
	case "Prune":
		for i, c := range b.cells {
			if c.Kind == api.CellDeleted {
				b.cells[i] = api.Cell{}
			}
		}
	}
}

// TestCallByCall: groups of all layouts held against eight plain cells, all bytes of the arena behind each call.
func TestCallByCall(t *testing.T) {
	r := rand.New(rand.NewSource(6))
	benches(t, func(b *bench) {
		for range 600 {
			b.holds("P6.1 to P6.11: " + b.step(r))
		}
	})
}
