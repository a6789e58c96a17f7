package tools_test

import (
	"fmt"
	"slices"
	"testing"

	"larder/api"
	"larder/store"
	"larder/tools"
)

// call: a tool, called with handles; its functions and iterators tell when they are asked.
type call struct {
	promise, name string
	least, most   int // how many handles it takes
	do            func(s *store.Store, asked *int, hs ...int) (any, api.Errno)
}

var calls = []call{
	{"P18.1", "Keys", 1, 1, func(s *store.Store, asked *int, hs ...int) (any, api.Errno) { return tools.Keys(s, hs[0]) }},
	{"P18.1", "Pairs", 1, 1, func(s *store.Store, asked *int, hs ...int) (any, api.Errno) { return tools.Pairs(s, hs[0]) }},
	{"P18.2", "Equal", 2, 2, func(s *store.Store, asked *int, hs ...int) (any, api.Errno) { return tools.Equal(s, hs[0], hs[1]) }},
	{"P18.3", "Copy", 2, 2, func(s *store.Store, asked *int, hs ...int) (any, api.Errno) { return tools.Copy(s, hs[0], hs[1]) }},
	{"P18.4", "Merge", 2, 2, func(s *store.Store, asked *int, hs ...int) (any, api.Errno) {
		return tools.Merge(s, hs[0], hs[1], func(k, old, v string) string { *asked++; return v })
	}},
	{"P18.5", "DeleteFunc", 1, 1, func(s *store.Store, asked *int, hs ...int) (any, api.Errno) {
		return tools.DeleteFunc(s, hs[0], func(k, v string) bool { *asked++; return true })
	}},
	{"P18.6", "Insert", 1, 1, func(s *store.Store, asked *int, hs ...int) (any, api.Errno) {
		return tools.Insert(s, hs[0], func(yield func(string, string) bool) { *asked++; yield("q", "q") })
	}},
	{"P18.8", union, 0, 4, func(s *store.Store, asked *int, hs ...int) (any, api.Errno) { return tools.Union(s, hs...) }},
	{"P18.8", meet, 0, 4, func(s *store.Store, asked *int, hs ...int) (any, api.Errno) { return tools.Meet(s, hs...) }},
	{"P18.8", less, 0, 4, func(s *store.Store, asked *int, hs ...int) (any, api.Errno) { return tools.Less(s, hs...) }},
}

// refuses: the call is refused by that error: beside it there is nothing, nobody has been asked, and the store is as it was, the next handle too.
func (c call) refuses(t *testing.T, s *store.Store, was string, want api.Errno, hs ...int) {
	t.Helper()
	asked := 0
	got, e := c.do(s, &asked, hs...)
	nothing := []string{"0", "false", "[]"}
	if e != want || !slices.Contains(nothing, fmt.Sprint(got)) || asked != 0 {
		t.Fatalf("%s: %s(%v) = %s, error %d, asked %d times; want error %d", c.promise, c.name, hs, short(got), e, asked, want)
	}
	if state(s) != was {
		t.Fatalf("%s: behind %s(%v), refused by %d, the store is not as it was", c.promise, c.name, hs, want)
	}
}

// lists: all lists of handles of a length, drawn from these.
func lists(length int, of []int) [][]int {
	if length == 0 {
		return [][]int{nil}
	}
	var all [][]int
	for _, l := range lists(length-1, of) {
		for _, h := range of {
			all = append(all, append(slices.Clone(l), h))
		}
	}
	return all
}

// TestWrongHandle: a handle that is no live map's, at each place among such that are.
func TestWrongHandle(t *testing.T) {
	s := world(t)
	was := state(s)
	for _, c := range calls {
		for n := max(1, c.least); n <= c.most; n++ {
			for place := range n {
				for _, w := range wrongHandles {
					hs := slices.Repeat([]int{few}, n)
					hs[place] = w.h
					c.refuses(t, s, was, w.e, hs...)
				}
			}
		}
	}
}

// TestFirstFault: several faults at once: handles of each kind and maps of unlike shapes, in every order: the first error of a handle, and only where there is none that of the shape.
func TestFirstFault(t *testing.T) {
	s := world(t)
	was := state(s)
	of := []int{few, longKeys, longElems, 0, nextFree, deadMap, manyWalk}
	for _, c := range calls {
		for n := c.least; n <= min(c.most, 3); n++ {
			for _, hs := range lists(n, of) {
				e := faultOfAll(t, s, hs...)
				if n == 0 {
					e = api.ErrHandle
				}
				if e != api.OK {
					c.refuses(t, s, was, e, hs...)
				}
			}
		}
	}
}

// TestAllWrong: every two handles that are wrong: the first one's error.
func TestAllWrong(t *testing.T) {
	s := world(t)
	was := state(s)
	for _, c := range calls {
		if c.most < 2 {
			continue
		}
		for _, a := range wrongHandles {
			for _, b := range wrongHandles {
				c.refuses(t, s, was, a.e, a.h, b.h)
			}
		}
	}
}

// TestNoHandles: P18.8: sets of no maps.
func TestNoHandles(t *testing.T) {
	for _, s := range []*store.Store{world(t), begin(t, 0), begin(t, 65536)} {
		was := state(s)
		for _, c := range calls {
			if c.least == 0 {
				c.refuses(t, s, was, api.ErrHandle)
				c.refuses(t, s, was, api.ErrHandle, []int{}...)
			}
		}
	}
}

// unlike: descriptors whose widths are not those of (4, 4, ..): in the key alone, in the elem alone, in both, turned round.
var unlike = [][]int{{8, 4, 1, 1, 16}, {4, 8, 1, 1, 16}, {2, 4, 1, 1, 16}, {4, 0, 1, 1, 16}, {8, 8, 1, 1, 16}, {5, 3, 1, 1, 16}}

// TestShapes: ErrShape, where the widths are not the same, at each place but the first; and a map of another shape as the first one makes the others unlike.
func TestShapes(t *testing.T) {
	for _, fields := range unlike {
		s := begin(t, 1<<20)
		a := made(t, s, 1, []int{4, 4, 1, 1, 16}, 1, 2, 3)
		b := made(t, s, 1, fields, 1, 2, 3)
		was := state(s)
		for _, c := range calls {
			for n := 2; n <= c.most; n++ {
				for place := range n {
					hs := slices.Repeat([]int{a}, n)
					hs[place] = b
					c.refuses(t, s, was, api.ErrShape, hs...)
				}
			}
		}
	}
}

// TestOneShape: maps that differ in alignments, cap or seed alone are of one shape: no call is refused.
func TestOneShape(t *testing.T) {
	for _, other := range [][]int{{8, 4, 1, 1, 16}, {8, 4, 8, 1, 16}, {8, 4, 1, 4, 16}, {8, 4, 2, 2, 16}, {8, 4, 4, 4, 1024}, {8, 4, 1, 1, 64}} {
		for _, c := range calls {
			if c.most < 2 {
				continue
			}
			for _, turned := range []bool{false, true} {
				s := begin(t, 1<<20)
				hs := []int{made(t, s, 1, []int{8, 4, 1, 1, 16}, numbers(0, 20)...), made(t, s, 77, other, numbers(10, 40)...)}
				if turned {
					slices.Reverse(hs)
				}
				asked := 0
				if got, e := c.do(s, &asked, hs...); e != api.OK {
					t.Errorf("%s: %s of maps of one shape, the one made by %v: %s, error %d", c.promise, c.name, other, short(got), e)
				}
			}
		}
	}
}

// TestListsStay: W3: the lists that are handed in, and the room behind them, are what they were, refused or not.
func TestListsStay(t *testing.T) {
	for _, hs := range [][]int{{}, {few}, {few, many}, {many, few, bare, grown}, {few, few}, {few, 99}, {longKeys, few}} {
		for _, c := range calls {
			if c.least > 0 {
				continue
			}
			list := append(slices.Clone(hs), 4242, 4243)
			asked := 0
			c.do(world(t), &asked, list[:len(hs)]...)
			if !slices.Equal(list, append(slices.Clone(hs), 4242, 4243)) {
				t.Errorf("W3: %s(%v) has changed its list: %v", c.name, hs, list)
			}
		}
	}
	for _, fields := range [][]int{chapter, {1, 1, 1, 1}, {2, 1, 1, 1, 16}, {1, 1, 1, 1, 17}, {}} {
		s := bench(t)
		list := append(slices.Clone(fields), 4242, 4243)
		tools.Collect(s, 1, s.All(1), list[:len(fields)]...)
		if !slices.Equal(list, append(slices.Clone(fields), 4242, 4243)) {
			t.Errorf("W3: Collect has changed its fields %v: %v", fields, list)
		}
	}
}
