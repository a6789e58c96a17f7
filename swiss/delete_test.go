package swiss_test

import (
	"testing"

	"larder/api"
)

// TestDeleteInEachStage: keys that are there and that are not, to the last; the map stays what it is.
func TestDeleteInEachStage(t *testing.T) {
	staged(t, func(w *world, x *pair, name string) {
		before, _ := x.m.Stat()
		slots, _ := x.m.Slots()
		for key := range 60 {
			there := w.delete(x, 1+key*37%60)
			if again, e := x.m.Delete(text(x.p.l.Key, 1+key*37%60)); again || e != api.OK {
				t.Fatalf("P12.10: %s: Delete again = %v, error %d (it was there: %v)", name, again, e, there)
			}
		}
		st, e := x.m.Stat()
		if st.Used != 0 || st.Root != before.Root || st.Depth != before.Depth || st.Births != before.Births || st.Retired != before.Retired || e != api.OK {
			t.Fatalf("P12.10: %s without keys: %+v, error %d, want %+v", name, st, e, before)
		}
		if n, _ := x.m.Slots(); n != slots {
			t.Fatalf("P12.10: %s without keys has %d slots, want %d", name, n, slots)
		}
		w.fill(x, 1, 20)
	})
}

// TestDeleteAndPutAgain: the key has a new birth.
func TestDeleteAndPutAgain(t *testing.T) {
	for _, keys := range []int{3, 8, 12, 30} {
		l := lay(t, descriptors[3])
		w := begin(t, 1<<16, l, ask(t))
		x := w.make(l, 5, 0)
		w.fill(x, 1, keys)
		for key := range keys {
			w.delete(x, 1+key)
			w.put(x, 1+key, key)
			if c, e := x.m.Cell(text(5, 1+key)); c.Birth != keys+key || e != api.OK {
				t.Fatalf("P12.10: the birth is %d, error %d, want %d", c.Birth, e, keys+key)
			}
		}
	}
}
