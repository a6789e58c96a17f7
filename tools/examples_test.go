package tools_test

import (
	"fmt"
	"testing"

	"larder/api"
	"larder/store"
	"larder/tools"
)

// TestExamples: the chapter's table: each call on the same two maps; behind it the maps are so, and the next handle is that.
func TestExamples(t *testing.T) {
	greater := func(k, old, v string) string { return max(old, v) }
	const one, two = "ax by", "bz cz"
	for _, c := range []struct {
		what string
		call func(s *store.Store) (any, api.Errno)
		want any
		e    api.Errno
		maps []string // from the handle 1 on
		next int
	}{
		{"Keys(1)", func(s *store.Store) (any, api.Errno) { return tools.Keys(s, 1) }, []string{"a", "b"}, 0, []string{one, two}, 3},
		{"Pairs(2)", func(s *store.Store) (any, api.Errno) { return tools.Pairs(s, 2) }, []api.Pair{{Key: "b", Elem: "z"}, {Key: "c", Elem: "z"}}, 0, []string{one, two}, 3},
		{"Keys(3)", func(s *store.Store) (any, api.Errno) { return tools.Keys(s, 3) }, []string(nil), api.ErrHandle, []string{one, two}, 3},
		{"Keys(0)", func(s *store.Store) (any, api.Errno) { return tools.Keys(s, 0) }, []string(nil), api.ErrHandle, []string{one, two}, 3},
		{"Equal(1, 1)", func(s *store.Store) (any, api.Errno) { return tools.Equal(s, 1, 1) }, true, 0, []string{one, two}, 3},
		{"Equal(1, 2)", func(s *store.Store) (any, api.Errno) { return tools.Equal(s, 1, 2) }, false, 0, []string{one, two}, 3},
		{"Equal(9, 8)", func(s *store.Store) (any, api.Errno) { return tools.Equal(s, 9, 8) }, false, api.ErrHandle, []string{one, two}, 3},
		{"Copy(1, 2)", func(s *store.Store) (any, api.Errno) { return tools.Copy(s, 1, 2) }, 1, 0, []string{"ax bz cz", two}, 3},
		{"Copy(1, 1)", func(s *store.Store) (any, api.Errno) { return tools.Copy(s, 1, 1) }, 0, 0, []string{one, two}, 3},
		{"Merge(1, 2), the greater", func(s *store.Store) (any, api.Errno) { return tools.Merge(s, 1, 2, greater) }, 1, 0, []string{"ax bz cz", two}, 3},
		{"DeleteFunc(2)", func(s *store.Store) (any, api.Errno) {
			return tools.DeleteFunc(s, 2, func(k, v string) bool { return v == "z" })
		}, 2, 0, []string{one, ""}, 3},
		{"Insert(1, All(2))", func(s *store.Store) (any, api.Errno) { return tools.Insert(s, 1, s.All(2)) }, 1, 0, []string{"ax bz cz", two}, 3},
		{"Collect(5, All(1), 1 1 1 1 64)", func(s *store.Store) (any, api.Errno) { return tools.Collect(s, 5, s.All(1), 1, 1, 1, 1, 64) }, 3, 0, []string{one, two, one}, 4},
		{"Collect(5, All(1), 2 1 1 1 64)", func(s *store.Store) (any, api.Errno) { return tools.Collect(s, 5, s.All(1), 2, 1, 1, 1, 64) }, 0, api.ErrKeyWidth, []string{one, two}, 4},
		{"Collect(5, All(1), 1 1 1 1 65)", func(s *store.Store) (any, api.Errno) { return tools.Collect(s, 5, s.All(1), 1, 1, 1, 1, 65) }, 0, api.ErrCap, []string{one, two}, 3},
		{"Union(1, 2)", func(s *store.Store) (any, api.Errno) { return tools.Union(s, 1, 2) }, 3, 0, []string{one, two, "ax by cz"}, 4},
		{"Union(2, 1)", func(s *store.Store) (any, api.Errno) { return tools.Union(s, 2, 1) }, 3, 0, []string{one, two, "ax bz cz"}, 4},
		{"Meet(1, 2)", func(s *store.Store) (any, api.Errno) { return tools.Meet(s, 1, 2) }, 3, 0, []string{one, two, "by"}, 4},
		{"Less(1, 2)", func(s *store.Store) (any, api.Errno) { return tools.Less(s, 1, 2) }, 3, 0, []string{one, two, "ax"}, 4},
		{"Less(1)", func(s *store.Store) (any, api.Errno) { return tools.Less(s, 1) }, 3, 0, []string{one, two, one}, 4},
		{"Less(1, 1)", func(s *store.Store) (any, api.Errno) { return tools.Less(s, 1, 1) }, 3, 0, []string{one, two, ""}, 4},
		{"Union()", func(s *store.Store) (any, api.Errno) { return tools.Union(s) }, 0, api.ErrHandle, []string{one, two}, 3},
		{"Union(1, 9)", func(s *store.Store) (any, api.Errno) { return tools.Union(s, 1, 9) }, 0, api.ErrHandle, []string{one, two}, 3},
		{"Meet(9, 0)", func(s *store.Store) (any, api.Errno) { return tools.Meet(s, 9, 0) }, 0, api.ErrHandle, []string{one, two}, 3},
	} {
		s := bench(t)
		got, e := c.call(s)
		if fmt.Sprint(got) != fmt.Sprint(c.want) || e != c.e {
			t.Errorf("%s = %v, error %d; want %v, error %d", c.what, got, e, c.want, c.e)
		}
		for i, want := range c.maps {
			if got := text(t, s, i+1); got != want {
				t.Errorf("%s: the map %d is %q, want %q", c.what, i+1, got, want)
			}
		}
		if hold := s.Hold(); hold.Next != c.next || len(hold.Maps) != len(c.maps) {
			t.Errorf("%s: the next handle is %d, with %d maps; want %d and %d", c.what, hold.Next, len(hold.Maps), c.next, len(c.maps))
		}
	}
}

// TestExampleJoinOfNoWidth: P18.4: join answers "": refused at b; if c came first, c z has been put.
func TestExampleJoinOfNoWidth(t *testing.T) {
	s := bench(t)
	want := "ax by"
	for k := range s.All(2) {
		if k == "c" {
			want += " cz"
		}
		break
	}
	n, e := tools.Merge(s, 1, 2, func(k, old, v string) string { return "" })
	if n != 0 || e != api.ErrElemWidth || text(t, s, 1) != want {
		t.Errorf("P18.4: Merge = %d, error %d; the map 1 is %q, want %q", n, e, text(t, s, 1), want)
	}
}

// TestExampleEqualMaps: P18.7: the collected map is equal to the one that was collected, whatever its seed and its cap.
func TestExampleEqualMaps(t *testing.T) {
	s := bench(t)
	h, e := tools.Collect(s, 5, s.All(1), 1, 1, 1, 1, 64)
	if yes, f := tools.Equal(s, 1, h); h != 3 || e != api.OK || !yes || f != api.OK {
		t.Errorf("P18.7: Collect = %d, error %d; Equal = %v, error %d", h, e, yes, f)
	}
}
