package audit_test

import (
	"fmt"
	"slices"
	"testing"

	"larder/api"
	"larder/audit"
	"larder/swiss"
)

// TestPairsOrder: P15.3: the keys rise byte by byte, bytes above 127 too, over maps of every shape.
func TestPairsOrder(t *testing.T) {
	for _, n := range []int{0, 1, 2, 7, 8, 9, 60, 300} {
		w := beginWith(t, []int{3, 2, 1, 2, 16})
		m, e := swiss.Make(w.a, w.l, w.o, 7, 0)
		answers(t, "Make", e, api.OK)
		var want []api.Pair
		for i := range n {
			b := byte(i * 37)
			p := api.Pair{Key: string([]byte{b & 0x83, byte(i), b}), Elem: string([]byte{byte(255 - i), byte(i >> 4)})}
			_, e := m.Put(p.Key, p.Elem)
			answers(t, "Put", e, api.OK)
			want = slices.DeleteFunc(want, func(q api.Pair) bool { return q.Key == p.Key })
			want = append(want, p)
		}
		slices.SortFunc(want, func(x, y api.Pair) int { return slices.Compare([]byte(x.Key), []byte(y.Key)) })
		got := audit.Pairs(w.a, w.o, w.root(m.Off()))
		if !slices.Equal(got, want) {
			t.Errorf("P15.3: %d keys: %q, want %q", n, got, want)
		}
	}
	w := begin(t, []int{1, 0, 1, 1, 16})
	m := w.mapOf("")
	for _, k := range []int{128, 0, 255, 127, 65, 254, 1} {
		_, e := m.Put(string([]byte{byte(k)}), "")
		answers(t, "Put", e, api.OK)
	}
	if got := fmt.Sprintf("%q", audit.Pairs(w.a, w.o, w.root(m.Off()))); got != `[{"\x00" ""} {"\x01" ""} {"A" ""} {"\x7f" ""} {"\x80" ""} {"\xfe" ""} {"\xff" ""}]` {
		t.Errorf("P15.3: %s", got)
	}
}

// TestPairsNew: P15.3, W3: each list is a new one, its spare room too, and what is done to it is seen nowhere.
func TestPairsNew(t *testing.T) {
	w := begin(t, chapter)
	m := w.mapOf("hgfedcbaijk")
	r := w.root(m.Off())
	before := picture(w.a)
	first, second := audit.Pairs(w.a, w.o, r), audit.Pairs(w.a, w.o, r)
	want := slices.Clone(second)
	first = first[:cap(first)]
	for i := range first {
		first[i] = api.Pair{Key: "?", Elem: "?"}
	}
	if !slices.Equal(second, want) || !slices.Equal(audit.Pairs(w.a, w.o, r), want) {
		t.Error("P15.3: the lists share memory")
	}
	if picture(w.a) != before {
		t.Error("P15.4: a byte has changed")
	}
	answers(t, "Clear", m.Clear(9), api.OK)
	if !slices.Equal(second, want) {
		t.Error("P15.3: the list has changed with the map")
	}
	if l := audit.Pairs(w.a, w.o, r); len(l) != 0 {
		t.Errorf("P15.3: a map that has been cleared: %v", l)
	}
}

// TestPairsFound: P15.3: nothing, where Map has a finding; but what Check alone finds is no matter.
func TestPairsFound(t *testing.T) {
	w, head, rules := richWide(t)
	whole := audit.Pairs(w.a, w.o, w.root(head))
	if len(whole) != 24 {
		t.Fatalf("P15.3: %d pairs", len(whole))
	}
	for _, x := range rules {
		back := w.lay(x.pokes...)
		if l := audit.Pairs(w.a, w.o, w.root(head)); len(l) != 0 {
			t.Errorf("P15.3: %s: %v", x.what, l)
		}
		w.lay(back...)
	}
	_, e := w.a.Alloc(5)
	answers(t, "Alloc", e, api.OK)
	if l := audit.Pairs(w.a, w.o, w.root(head)); !slices.Equal(l, whole) {
		t.Errorf("P15.3: beside a lost block: %v", l)
	}
	if l := audit.Pairs(w.a, w.o, w.root(head+1)); len(l) != 0 {
		t.Errorf("P15.3: where no map is: %v", l)
	}
}

// TestPairsCurrent: P15.3: retired cells are not told, though their keys are gone from the map.
func TestPairsCurrent(t *testing.T) {
	w := begin(t, chapter)
	m := w.mapOf("abcdefgh")
	answers(t, "Pin", m.Pin(w.load(m.Off()+root)), api.OK)
	w.put(m, "i")
	for _, k := range "abcdefgh" {
		_, e := m.Delete(string(k))
		answers(t, "Delete", e, api.OK)
	}
	w.asks("P15.5: eight keys in a retired block alone", m.Off(), fine)
	if got := fmt.Sprint(audit.Pairs(w.a, w.o, w.root(m.Off()))); got != "[{i x}]" {
		t.Errorf("P15.3: %s", got)
	}
}
