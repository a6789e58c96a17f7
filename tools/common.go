package tools

import (
	"cmp"
	"iter"
	"slices"

	"larder/api"
	"larder/store"
)

// refusal: the error of a handle, asked for as a map's. (Len is the call that asks for nothing else.)
func refusal(s *store.Store, h int) api.Errno {
	_, e := s.Len(h)
	return e
}

// sharedLayout: the first map's layout, where all of them are of one shape.
func sharedLayout(s *store.Store, hs ...int) (api.Layout, api.Errno) {
	for _, h := range hs {
		if e := refusal(s, h); e != api.OK {
			return api.Layout{}, e
		}
	}
	kept := s.Hold().Maps
	var first api.Layout
	for i, h := range hs {
		l, e := layoutOf(kept, h)
		if e != api.OK {
			return api.Layout{}, e
		}
		if i == 0 {
			first = l
		}
		if l.Key != first.Key || l.Elem != first.Elem {
			return api.Layout{}, api.ErrShape
		}
	}
	return first, api.OK
}

// layoutOf: the layout of a map that was there a moment ago: where it is not told any more, someone has released it since.
func layoutOf(kept []api.Kept, h int) (api.Layout, api.Errno) {
	i, told := slices.BinarySearchFunc(kept, h, func(k api.Kept, h int) int { return cmp.Compare(k.Handle, h) })
	if !told {
		return api.Layout{}, api.ErrGone
	}
	return kept[i].Root.Layout, api.OK
}

// readThrough: take is given each pair of the map. The handle is asked for again behind the last one: of a map that someone has released meanwhile only some pairs have come.
func readThrough(s *store.Store, h int, take func(key, elem string)) api.Errno {
	if e := refusal(s, h); e != api.OK {
		return e
	}
	for key, elem := range s.All(h) {
		take(key, elem)
	}
	return refusal(s, h)
}

// count: do is given each pair that comes: how often it answered yes. Where it is refused, nothing more is asked for.
func count(pairs iter.Seq2[string, string], do func(key, elem string) (bool, api.Errno)) (int, api.Errno) {
	n := 0
	for key, elem := range pairs {
		yes, e := do(key, elem)
		if e != api.OK {
			return 0, e
		}
		if yes {
			n++
		}
	}
	return n, api.OK
}

// putAll: each pair that comes is put into the map: how many keys were added.
func putAll(s *store.Store, to int, pairs iter.Seq2[string, string]) (int, api.Errno) {
	return count(pairs, func(key, elem string) (bool, api.Errno) { return s.Put(to, key, elem) })
}

// heeding: the same pairs, for a loop that may be left early. A caller's iterator may be one that goes on when it is told to stop: a loop that has been left would panic then, so what comes still is dropped ahead of it.
func heeding(pairs iter.Seq2[string, string]) iter.Seq2[string, string] {
	return func(yield func(string, string) bool) {
		on := true
		pairs(func(key, elem string) bool {
			on = on && yield(key, elem)
			return on
		})
		on = false
	}
}

// filled: a new map, filled by a function: its handle. Where the function is refused, the map is released.
func filled(s *store.Store, seed uint64, fields []int, fill func(made int) api.Errno) (int, api.Errno) {
	made, e := s.Make(seed, 0, fields...)
	if e != api.OK {
		return 0, e
	}
	if e := fill(made); e != api.OK {
		s.Release(made)
		return 0, e
	}
	return made, api.OK
}
