package tools_test

import (
	"iter"
	"slices"
	"testing"

	"larder/api"
	"larder/store"
)

// The tools by the chapter's words, each step a plain call of the store.

// faultOf: the error of a handle, by what the store tells of its handles.
func faultOf(s *store.Store, h int) api.Errno {
	hold := s.Hold()
	isMap := slices.ContainsFunc(hold.Maps, func(k api.Kept) bool { return k.Handle == h })
	switch {
	case h < 1 || h >= hold.Next:
		return api.ErrHandle
	case isMap:
		return api.OK
	case slices.Contains(s.Handles(), h):
		return api.ErrKind
	}
	return api.ErrGone
}

// faultOfAll: the first error of a handle, then that of the shape.
func faultOfAll(t testing.TB, s *store.Store, hs ...int) api.Errno {
	t.Helper()
	for _, h := range hs {
		if e := faultOf(s, h); e != api.OK {
			return e
		}
	}
	for _, h := range hs {
		a, b := root(t, s, hs[0]).Layout, root(t, s, h).Layout
		if a.Key != b.Key || a.Elem != b.Elem {
			return api.ErrShape
		}
	}
	return api.OK
}

// plainCount: each of the pairs is done, till one is refused: how many were counted.
func plainCount(pairs iter.Seq2[string, string], do func(k, v string) (bool, api.Errno)) (any, api.Errno) {
	n, refused := 0, api.OK
	pairs(func(k, v string) bool {
		yes, e := do(k, v)
		if yes {
			n++
		}
		refused = e
		return e == api.OK
	})
	if refused != api.OK {
		return 0, refused
	}
	return n, api.OK
}

func plainCopy(t testing.TB, s *store.Store, to, from int) (any, api.Errno) {
	t.Helper()
	if e := faultOfAll(t, s, to, from); e != api.OK {
		return 0, e
	}
	return plainCount(s.All(from), func(k, v string) (bool, api.Errno) { return s.Put(to, k, v) })
}

func plainMerge(t testing.TB, s *store.Store, to, from int, join func(k, old, v string) string) (any, api.Errno) {
	t.Helper()
	if e := faultOfAll(t, s, to, from); e != api.OK {
		return 0, e
	}
	return plainCount(s.All(from), func(k, v string) (bool, api.Errno) {
		old, there, e := s.Get(to, k)
		switch {
		case e != api.OK:
			return false, e
		case there:
			return s.Put(to, k, join(k, old, v))
		}
		return s.Put(to, k, v)
	})
}

func plainDelete(s *store.Store, h int, drop func(k, v string) bool) (any, api.Errno) {
	if e := faultOf(s, h); e != api.OK {
		return 0, e
	}
	return plainCount(s.All(h), func(k, v string) (bool, api.Errno) {
		if drop(k, v) {
			return s.Delete(h, k)
		}
		return false, api.OK
	})
}

func plainInsert(s *store.Store, h int, pairs iter.Seq2[string, string]) (any, api.Errno) {
	if e := faultOf(s, h); e != api.OK {
		return 0, e
	}
	return plainCount(pairs, func(k, v string) (bool, api.Errno) { return s.Put(h, k, v) })
}

func plainCollect(s *store.Store, seed uint64, pairs iter.Seq2[string, string], fields ...int) (any, api.Errno) {
	h, e := s.Make(seed, 0, fields...)
	if e != api.OK {
		return 0, e
	}
	if _, e := plainCount(pairs, func(k, v string) (bool, api.Errno) { return s.Put(h, k, v) }); e != api.OK {
		s.Release(h)
		return 0, e
	}
	return h, api.OK
}

// The names of the sets.
const (
	union = "Union"
	meet  = "Meet"
	less  = "Less"
)

// plainSet: the pairs are told ahead of the make, as the maps that are named do not change.
func plainSet(t testing.TB, s *store.Store, name string, hs ...int) (any, api.Errno) {
	t.Helper()
	if len(hs) == 0 {
		return 0, api.ErrHandle
	}
	if e := faultOfAll(t, s, hs...); e != api.OK {
		return 0, e
	}
	l := root(t, s, hs[0]).Layout
	list := setOf(t, s, name, hs...)
	return plainCollect(s, 0, func(yield func(string, string) bool) {
		for _, p := range list {
			if !yield(p.Key, p.Elem) {
				return
			}
		}
	}, l.Key, l.Elem, l.KeyAlign, l.ElemAlign, l.Cap)
}

// setOf: the pairs of a set, in the order in which they are put.
func setOf(t testing.TB, s *store.Store, name string, hs ...int) []api.Pair {
	t.Helper()
	var list []api.Pair
	through := hs[:1]
	if name == union {
		through = hs
	}
	for _, h := range through {
		for k, v := range s.All(h) {
			others := 0
			for _, other := range hs[1:] {
				if _, there := finite(t, s, other)[k]; there {
					others++
				}
			}
			first := !slices.ContainsFunc(list, func(p api.Pair) bool { return p.Key == k })
			if name == union && first || name == meet && others == len(hs)-1 || name == less && others == 0 {
				list = append(list, api.Pair{Key: k, Elem: v})
			}
		}
	}
	return list
}
