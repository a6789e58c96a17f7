package swiss_test

import (
	"fmt"
	"slices"
	"testing"

	"larder/api"
	"larder/oracle"
	"larder/swiss"
	"larder/table"
)

// TestClone: the model's bytes: where each cell lies, births and epoch; then both maps change.
func TestClone(t *testing.T) {
	staged(t, func(w *world, x *pair, name string) {
		w.clear(x, 5) // an epoch that a clone doesn't take over
		w.fill(x, 2, len(name)%37)
		w.delete(x, 3)
		w.put(x, 3, 77)
		c := w.clone(x)
		st, _ := c.m.Stat()
		if old, _ := x.m.Stat(); st.Epoch != 0 || st.Retired != 0 || st.Births != old.Births || st.Seed != old.Seed || st.Used != old.Used || old.Epoch != 1 {
			t.Fatalf("P12.5: %s: the clone is %+v, the old one %+v", name, st, old)
		}
		w.apart(x, c)
		w.release(x)
		w.fill(c, 30, 12)
		w.tells("P12.5: behind the old one's release", c)
	})
}

// apart: either map is changed, and the other isn't.
func (w *world) apart(x, c *pair) {
	w.t.Helper()
	for i, y := range []*pair{x, c} {
		w.put(y, 2, 90+i)
		w.put(y, 60+i, 5)
		w.delete(y, 4+i)
		w.tells("P12.5: the old one, behind a change of the new one", x)
		w.tells("P12.5: the new one, behind a change of the old one", c)
	}
}

// TestCloneOfEachStage: with pins and retired ones, which a clone doesn't take over.
func TestCloneOfEachStage(t *testing.T) {
	staged(t, func(w *world, x *pair, name string) {
		c := w.clone(x)
		for _, p := range c.p.current() {
			if st, e := table.At(w.a, x.p.l, p.off).Stat(); !p.small && (st.Pins != 0 || e != api.OK) {
				t.Fatalf("P12.5: %s: a walk stands on the clone: %+v, error %d", name, st, e)
			}
		}
		again := w.clone(c)
		w.apart(x, c)
		w.tells("P12.5: the clone's clone", again)
		w.release(c)
		w.clear(x, 3)
		w.tells("P12.5: the clone's clone", again)
	})
}

// TestCloneOfAMapWithFewKeys: of a wide map with at most eight keys it is small, or bare.
func TestCloneOfAMapWithFewKeys(t *testing.T) {
	for keys := range 12 {
		l := lay(t, descriptors[2])
		w := begin(t, 1<<16, l, ask(t))
		x := w.make(l, 3, 0)
		w.fill(x, 1, 30)
		for i := 30; i > keys; i-- {
			w.delete(x, i)
		}
		c := w.clone(x)
		_, isSmall, _ := c.m.Small()
		_, isWide, _ := c.m.Dir()
		if isSmall != (keys >= 1 && keys <= 8) || isWide != (keys > 8) {
			t.Errorf("P12.5: the clone of %d keys: small %v, wide %v", keys, isSmall, isWide)
		}
	}
}

// TestCloneUnderEachLimit: each block of it just fits, or just doesn't.
func TestCloneUnderEachLimit(t *testing.T) {
	staged(t, func(w *world, x *pair, name string) {
		i := slices.Index(w.maps, x)
		refused := w.limits(func(v *world) api.Errno {
			v.quiet = true
			c := v.clone(v.maps[i])
			v.quiet = false
			v.holds("P12.5: under a limit", v.maps...)
			if c == nil {
				v.givesNext(64, 32+x.p.l.Group, 2*x.p.l.Group, 16, 32)
				return api.ErrMemory
			}
			return api.OK
		})
		if refused < 2 {
			t.Errorf("P12.5: %s: a clone is refused by %d limits only", name, refused)
		}
	})
}

// TestCloneBeyondTheGreatestHint: a map of more than MaxHint keys.
func TestCloneBeyondTheGreatestHint(t *testing.T) {
	a, l, o := open(t, api.MaxLimit), lay(t, [5]int{2, 1, 1, 1, 64}), ask(t)
	m, e := swiss.Make(a, l, o, 3, 4096)
	answers(t, "Make", e, api.OK)
	for i := range 7169 {
		_, e := m.Put(text(2, i), text(1, i))
		answers(t, "Put", e, api.OK)
	}
	c, e := m.Clone()
	answers(t, "P12.5: Clone of 7169 keys", e, api.OK)
	st, _ := c.Stat()
	n, _ := c.Slots()
	if st.Used != 7169 || st.Births != 7169 || st.Depth != 6 || n < 16384 { // Most(8192) is 7168
		t.Errorf("P12.5: the clone has %d slots: %+v", n, st)
	}
	for i := range 7169 {
		if s, yes, e := c.Get(text(2, i)); s != text(1, i) || !yes || e != api.OK {
			t.Fatalf("P12.5: key %d of the clone: %q, %v, error %d", i, s, yes, e)
		}
	}
}

// TestCloneOfMoreKeysThanATableMayHold: so many take more than half of the greatest limit, so there is no room for a second map; but the tables that were tried tell what n was.
func TestCloneOfMoreKeysThanATableMayHold(t *testing.T) {
	a, l, o := open(t, api.MaxLimit), lay(t, [5]int{3, 0, 1, 1, 512}), ask(t)
	m, e := swiss.Make(a, l, o, 3, 4096)
	answers(t, "Make", e, api.OK)
	var of [64]int // keys by their top bits: as many as 1024 slots hold, so that no memory is lost to greater tables
	for i, n := 0, 0; n < 57345; i++ {
		key := text(3, i)
		top := oracle.Top(o.Hash(3, key), 6)
		if of[top] == 896 && n < 57344 {
			continue
		}
		of[top]++
		n++
		_, e := m.Put(key, "")
		answers(t, fmt.Sprintf("Put of key %d", n), e, api.OK)
	}
	b := twin(t, a)
	before := look(t, a)
	c, e := m.Clone()
	answers(t, "P12.5: Clone of 57345 keys", e, api.ErrMemory)
	if c != (swiss.Map{}) {
		t.Error("P12.5: beside an error the clone is not the zero map")
	}
	var offs []int
	off, _ := b.Alloc(64)
	offs = append(offs, off)
	for {
		made, e := table.New(b, l, 1024, 6)
		if e != api.OK {
			break
		}
		st, _ := made.Stat()
		offs = append(offs, made.Off(), st.Groups)
	}
	answers(t, "Free", b.Free(offs...), api.OK)
	if len(offs) < 9 {
		t.Fatal("no table fits beside so many keys")
	}
	before.end, before.parts = b.End(), b.Parts()
	like(t, "P12.5: a Clone that is refused", a, before)
}
