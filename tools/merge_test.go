package tools_test

import (
	"fmt"
	"maps"
	"testing"

	"larder/api"
	"larder/store"
	"larder/tools"
)

// TestMergeAsks: P18.4: join is called once for each key that is in both, in the order in which they come, with the key, the old elem and the new one; for no other.
func TestMergeAsks(t *testing.T) {
	for name, of := range hashes {
		for _, to := range sizes[:8] {
			for _, from := range sizes[:9] {
				s := two(t, 1<<21, of, to, from)()
				mine, other := finite(t, s, 1), finite(t, s, 2)
				want, added := []string{}, 0
				after := maps.Clone(mine)
				for k, v := range s.All(2) {
					old, there := mine[k]
					if after[k] = v; !there {
						added++
						continue
					}
					want = append(want, fmt.Sprintf("%q", []string{k, old, v}))
					after[k] = string([]byte{old[0] ^ v[0]})
				}
				got := []string{}
				n, e := tools.Merge(s, 1, 2, func(k, old, v string) string {
					got = append(got, fmt.Sprintf("%q", []string{k, old, v}))
					return string([]byte{old[0] ^ v[0]})
				})
				if n != added || e != api.OK || fmt.Sprint(got) != fmt.Sprint(want) {
					t.Fatalf("P18.4: %s: Merge of %d keys into %d = %d, error %d, join was asked %s; want %d, %s", name, from, to, n, e, short(got), added, short(want))
				}
				if !maps.Equal(finite(t, s, 1), after) || !maps.Equal(finite(t, s, 2), other) {
					t.Fatalf("P18.4: %s: behind Merge of %d keys into %d the maps are %s and %s", name, from, to, text(t, s, 1), text(t, s, 2))
				}
				sound(t, s)
			}
		}
	}
}

// TestMergeOneMap: P18.4: a map merged into itself: join is asked for each key, with the same elem twice.
func TestMergeOneMap(t *testing.T) {
	for _, h := range []int{few, many, bare, grown} {
		s := world(t)
		asked := map[string]int{}
		before := finite(t, s, h)
		n, e := tools.Merge(s, h, h, func(k, old, v string) string {
			asked[k]++
			if old != v || before[k] != v {
				t.Errorf("P18.4: join was asked %q, %q, %q", k, old, v)
			}
			return "j"
		})
		if n != 0 || e != api.OK || len(asked) != len(before) {
			t.Fatalf("P18.4: Merge(%d, %d) = %d, error %d, %d keys of %d were asked for", h, h, n, e, len(asked), len(before))
		}
		for k, v := range finite(t, s, h) {
			if asked[k] != 1 || v != "j" {
				t.Fatalf("P18.4: join was asked for %q %d times, its elem is %q", k, asked[k], v)
			}
		}
	}
}

// TestMergeElems: P18.4: where a key is in both, the elem is what join answers, be it the old one, the new one or neither; the others are taken as they come.
func TestMergeElems(t *testing.T) {
	for want, join := range map[string]func(k, old, v string) string{
		"ax by cz": func(k, old, v string) string { return old },
		"ax bz cz": func(k, old, v string) string { return v },
		"ax bb cz": func(k, old, v string) string { return k },
	} {
		s := bench(t)
		if n, e := tools.Merge(s, 1, 2, join); n != 1 || e != api.OK || text(t, s, 1) != want || text(t, s, 2) != "bz cz" {
			t.Errorf("P18.4: Merge = %d, error %d; the map is %s, want %s", n, e, text(t, s, 1), want)
		}
	}
}

// TestMergeDeletedByJoin: P18.4: join deletes the key that it is asked for: its put is counted.
func TestMergeDeletedByJoin(t *testing.T) {
	for _, one := range []bool{false, true} {
		s := two(t, 1<<20, nil, 30, 30)()
		from := 2
		if one {
			from = 1
		}
		asked := 0
		n, e := tools.Merge(s, 1, from, func(k, old, v string) string {
			asked++
			s.Delete(1, k)
			return v
		})
		if n != 30 || e != api.OK || asked == 0 || one && asked != 30 {
			t.Errorf("P18.4: Merge = %d, error %d, join was asked %d times", n, e, asked)
		}
		sound(t, s)
	}
}

// TestMergeWrongWidth: P18.4: join answers an elem of a wrong width at its call number n: 0, ErrElemWidth; join is not asked again; what was put till then stays.
func TestMergeWrongWidth(t *testing.T) {
	for _, bad := range []string{"", "xy", "0123456789"} {
		for when := 1; when <= 10; when++ {
			asked := 0
			join := func(k, old, v string) string {
				if asked++; asked == when {
					return bad
				}
				return "j"
			}
			_, e := asPlainly(t, fmt.Sprintf("P18.4: join answers %q at its call %d", bad, when), two(t, 1<<20, nil, 30, 30),
				func(s *store.Store) (any, api.Errno) { asked = 0; return tools.Merge(s, 1, 2, join) },
				func(s *store.Store) (any, api.Errno) {
					if asked != when {
						t.Errorf("P18.4: join was asked %d times, want %d", asked, when)
					}
					asked = 0
					return plainMerge(t, s, 1, 2, join)
				})
			if e != api.ErrElemWidth {
				t.Errorf("P18.4: join answers %q: error %d", bad, e)
			}
		}
	}
}

// TestMergeDeeds: P18.4: join puts, deletes, clears and releases in the same store; the maps may be one. What is counted, asked for and left is what plain steps make of it.
func TestMergeDeeds(t *testing.T) {
	t.Parallel()
	seen := outcomes{}
	deedsDone(func(name string, deed func(s *store.Store, k string, n int), of func(int) uint64, limit, to, from int) {
		for _, hs := range [][2]int{{1, 2}, {2, 1}, {1, 1}, {2, 2}} {
			var got, want []string
			joins := func(s *store.Store, log *[]string) func(k, old, v string) string {
				return func(k, old, v string) string {
					*log = append(*log, k+old+v)
					deed(s, k, len(*log))
					return string([]byte{old[0] + v[0]})
				}
			}
			what := fmt.Sprintf("P18.4: Merge(%d, %d) of maps of %d and %d keys, limit %d, with a join that %s", hs[0], hs[1], to, from, limit, name)
			_, e := asPlainly(t, what, two(t, limit, of, to, from),
				func(s *store.Store) (any, api.Errno) { return tools.Merge(s, hs[0], hs[1], joins(s, &got)) },
				func(s *store.Store) (any, api.Errno) { return plainMerge(t, s, hs[0], hs[1], joins(s, &want)) })
			if fmt.Sprintf("%q", got) != fmt.Sprintf("%q", want) {
				t.Fatalf("%s: join was asked %q, want %q", what, got, want)
			}
			seen[e]++
		}
	})
	if seen[api.OK] < 50 || seen[api.ErrGone] < 20 || seen[api.ErrMemory] < 20 {
		t.Errorf("the test is too tame: %v", seen)
	}
}

// TestMergeReleased: P18.4: join releases a map: where the put, or the next get, finds it gone, that is ErrGone; where only the map that is gone through is gone, Merge ends there.
func TestMergeReleased(t *testing.T) {
	s := bench(t)
	if n, e := tools.Merge(s, 1, 2, func(k, old, v string) string { s.Release(1); return v }); n != 0 || e != api.ErrGone {
		t.Errorf("P18.4: join releases the map that is put into: %d, error %d", n, e)
	}
	s = begin(t, 65536)
	spelt(t, s, 1, chapter, "ax bx cx dx")
	spelt(t, s, 1, chapter, "ay by cy dy")
	asked := 0
	n, e := tools.Merge(s, 1, 2, func(k, old, v string) string {
		if asked++; asked == 2 {
			s.Release(2)
		}
		return v
	})
	if n != 0 || e != api.OK || asked != 2 || len(s.Handles()) != 1 || s.Live() != 256 {
		t.Errorf("P18.4: join releases the map that is gone through: %d, error %d, asked %d times, %d bytes", n, e, asked, s.Live())
	}
}
