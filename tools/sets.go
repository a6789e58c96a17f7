package tools

import (
	"larder/api"
	"larder/store"
)

// Union: a new map with the keys that are in one of the maps at least, each with the elem of the first that has it: its handle.
func Union(s *store.Store, hs ...int) (int, api.Errno) {
	return newSet(s, hs, func(made int) api.Errno {
		for _, h := range hs {
			e := putSome(s, made, h, func(key string) (bool, api.Errno) {
				n, e := holders(s, key, made)
				return n == 0, e
			})
			if e != api.OK {
				return e
			}
		}
		return api.OK
	})
}

// Meet: a new map with the first map's pairs whose keys are in each of the others: its handle.
func Meet(s *store.Store, hs ...int) (int, api.Errno) {
	return newSet(s, hs, func(made int) api.Errno {
		return putSome(s, made, hs[0], func(key string) (bool, api.Errno) {
			n, e := holders(s, key, hs[1:]...)
			return n == len(hs)-1, e
		})
	})
}

// Less: a new map with the first map's pairs whose keys are in none of the others: its handle.
func Less(s *store.Store, hs ...int) (int, api.Errno) {
	return newSet(s, hs, func(made int) api.Errno {
		return putSome(s, made, hs[0], func(key string) (bool, api.Errno) {
			n, e := holders(s, key, hs[1:]...)
			return n == 0, e
		})
	})
}

// newSet: a new map with the first one's numbers, filled by a function: its handle.
func newSet(s *store.Store, hs []int, fill func(made int) api.Errno) (int, api.Errno) {
	if len(hs) == 0 {
		return 0, api.ErrHandle
	}
	l, e := sharedLayout(s, hs...)
	if e != api.OK {
		return 0, e
	}
	return filled(s, 0, []int{l.Key, l.Elem, l.KeyAlign, l.ElemAlign, l.Cap}, fill)
}

// putSome: goes through the map from, and puts each pair whose key is wanted into the map to.
func putSome(s *store.Store, to, from int, wanted func(key string) (bool, api.Errno)) api.Errno {
	_, e := count(s.All(from), func(key, elem string) (bool, api.Errno) {
		if yes, e := wanted(key); e != api.OK || !yes {
			return false, e
		}
		return s.Put(to, key, elem)
	})
	return e
}

// holders: how many of these maps have the key. (One that is named twice counts twice.)
func holders(s *store.Store, key string, hs ...int) (int, api.Errno) {
	n := 0
	for _, h := range hs {
		_, there, e := s.Get(h, key)
		if e != api.OK {
			return 0, e
		}
		if there {
			n++
		}
	}
	return n, api.OK
}
