package audit_test

import (
	"fmt"
	"testing"

	"larder/api"
	"larder/audit"
)

// TestExamplesOfBare: the chapter's examples over a map that has been made and no more.
func TestExamplesOfBare(t *testing.T) {
	w := begin(t, chapter)
	w.mapOf("")
	at16 := w.root(16)
	for _, c := range []struct {
		what  string
		roots []api.Root
		want  api.Finding
	}{
		{"nothing but Make", []api.Root{at16}, api.Finding{}},
		{"a layout of zeros", []api.Root{{Off: 16}}, api.Finding{Code: 1, Off: 16}},
		{"a root at 17", []api.Root{w.root(17)}, api.Finding{Code: 6, Off: 17}},
		{"a root at 80", []api.Root{w.root(80)}, api.Finding{Code: 6, Off: 80}},
		{"no root", nil, api.Finding{Code: 26, Off: 16}},
		{"two roots at 16", []api.Root{at16, at16}, api.Finding{Code: 7, Off: 16}},
	} {
		finds(t, "P15.1, P15.2: "+c.what, w.check(c.roots...), c.want)
	}
	w.asks("P15.1: Store(16, 8, 1)", 16, api.Finding{Code: 3, Off: 32}, word(16, 1))
	w.asks("P15.1: Store(16 + 56, 1, 9)", 16, api.Finding{Code: 3, Off: 72}, one(16+56, 9))
	w.asks("P15.1: Store(16 + 40, 8, 7)", 16, api.Finding{Code: 4, Off: 56}, word(16+40, 7))
	w.asks("P15.1: Store(16 + 40, 8, 0)", 16, api.Finding{Code: 6, Off: 48}, word(16+40, 0))
}

// TestExamplesOfSmall: those over a map of two keys.
func TestExamplesOfSmall(t *testing.T) {
	w := begin(t, chapter)
	w.mapOf("ab")
	w.asks("P15.1: two puts", 16, api.Finding{})
	if got := fmt.Sprint(audit.Pairs(w.a, w.o, w.root(16))); got != "[{a x} {b y}]" {
		t.Errorf("P15.3: Pairs is %s", got)
	}
	for _, c := range []struct {
		pokes []poke
		want  api.Finding
	}{
		{[]poke{one(112, 1)}, api.Finding{Code: 13, Off: 112}},
		{[]poke{one(113, 254)}, api.Finding{Code: 11, Off: 113}},
		{[]poke{one(113, 128)}, api.Finding{Code: 12, Off: 136}},
		{[]poke{one(120, 98)}, api.Finding{Code: 13, Off: 112}},
		{[]poke{one(136, 97), one(113, 0)}, api.Finding{Code: 15, Off: 136}},
		{[]poke{word(144, 0)}, api.Finding{Code: 16, Off: 144}},
		{[]poke{word(144, 2)}, api.Finding{Code: 14, Off: 144}},
		{[]poke{word(16, 1)}, api.Finding{Code: 17, Off: 16}},
		{[]poke{word(104, 3)}, api.Finding{Code: 17, Off: 104}},
		{[]poke{one(80+191, 1)}, api.Finding{Code: 18, Off: 271}},
	} {
		w.asks(fmt.Sprintf("P15.1: with %v", c.pokes), 16, c.want, c.pokes...)
	}
	_, e := w.a.Alloc(5)
	answers(t, "Alloc", e, api.OK)
	finds(t, "P15.2: behind Alloc(5)", w.check(w.root(16)), api.Finding{Code: 26, Off: 272})
	finds(t, "P15.1: Map behind Alloc(5)", audit.Map(w.a, w.o, w.root(16)), api.Finding{})
}
