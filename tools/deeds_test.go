package tools_test

import (
	"larder/api"
	"larder/store"
	"larder/tools"
)

// deeds: what a function or an iterator that is handed in may do in the same store, at its call number n, with the key it was given. The maps are 1 and 2; some deeds leave walks or maps behind.
var deeds = map[string]func(s *store.Store, k string, n int){
	"nothing":             func(s *store.Store, k string, n int) {},
	"reads":               func(s *store.Store, k string, n int) { s.Get(1, k); s.Len(2); tools.Keys(s, 1); tools.Equal(s, 1, 2) },
	"puts into the first": func(s *store.Store, k string, n int) { s.Put(1, key(1, 100+n), "n") },
	"puts into the other": func(s *store.Store, k string, n int) { s.Put(2, key(1, 100+n), "n") },
	"puts many": func(s *store.Store, k string, n int) {
		for i := range 12 {
			s.Put(1, key(1, 60+12*n+i), "m")
			s.Put(2, key(1, 60+12*n+i), "m")
		}
	},
	"puts the key":                 func(s *store.Store, k string, n int) { s.Put(1, k, "p"); s.Put(2, k, "p") },
	"replaces elems of both":       func(s *store.Store, k string, n int) { s.Put(1, key(1, n*7%30), "r"); s.Put(2, key(1, n*5%30), "r") },
	"deletes the key in the first": func(s *store.Store, k string, n int) { s.Delete(1, k) },
	"deletes the key in the other": func(s *store.Store, k string, n int) { s.Delete(2, k) },
	"deletes the key and puts it": func(s *store.Store, k string, n int) {
		s.Delete(1, k)
		s.Put(1, k, "d")
		s.Delete(2, k)
		s.Put(2, k, "d")
	},
	"deletes others":                 func(s *store.Store, k string, n int) { s.Delete(1, key(1, n*7%30)); s.Delete(2, key(1, n*11%30)) },
	"clears the first":               func(s *store.Store, k string, n int) { s.Clear(1, uint64(n)) },
	"clears the other":               func(s *store.Store, k string, n int) { s.Clear(2, uint64(n)) },
	"clears the first at the third":  at(3, func(s *store.Store, k string) { s.Clear(1, 5); s.Put(1, k, "c") }),
	"clears the other at the third":  at(3, func(s *store.Store, k string) { s.Clear(2, 5); s.Put(2, k, "c") }),
	"releases the first":             func(s *store.Store, k string, n int) { s.Release(1) },
	"releases the other":             func(s *store.Store, k string, n int) { s.Release(2) },
	"releases both":                  func(s *store.Store, k string, n int) { s.Release(1, 2) },
	"releases the first at the last": at(5, func(s *store.Store, k string) { s.Release(1) }),
	"releases the other at the last": at(5, func(s *store.Store, k string) { s.Release(2) }),
	"releases and makes anew": at(2, func(s *store.Store, k string) {
		s.Release(2)
		h, _ := s.Make(2, 0, chapter...)
		s.Put(h, k, "a")
		w, _ := s.Open(h, 0, 0)
		s.Next(w)
	}),
	"makes and clones": func(s *store.Store, k string, n int) { s.Make(3, 20, chapter...); s.Clone(1) },
	"opens walks": func(s *store.Store, k string, n int) {
		w, _ := s.Open(1, 3, 9)
		s.Next(w)
		w, _ = s.Open(2, 3, 9)
		s.Next(w)
		s.Put(1, key(1, 100+n), "w")
	},
	"ranges": func(s *store.Store, k string, n int) {
		for k := range s.All(2) {
			s.Put(1, k, "o")
			break
		}
	},
	"copies":      func(s *store.Store, k string, n int) { tools.Copy(s, 1, 2) },
	"copies back": func(s *store.Store, k string, n int) { tools.Copy(s, 2, 1) },
	"makes a set": func(s *store.Store, k string, n int) { tools.Union(s, 1, 2) },
	"deletes by a question": at(2, func(s *store.Store, k string) {
		tools.DeleteFunc(s, 2, func(k, v string) bool { return k > "M" })
	}),
	"is refused": func(s *store.Store, k string, n int) { s.Put(99, k, "x"); s.Put(1, "", ""); s.Release(1, 1) },
}

// at: done at that call alone.
func at(when int, deed func(s *store.Store, k string)) func(s *store.Store, k string, n int) {
	return func(s *store.Store, k string, n int) {
		if n == when {
			deed(s, k)
		}
	}
}

// tight: limits under which some put midway is refused, and one under which none is.
var tight = []int{1500, 3000, 1 << 20}

// deedsDone: each deed, with maps of several sizes under several limits and hashes; each is told what it has to try.
func deedsDone(each func(name string, deed func(s *store.Store, k string, n int), of func(int) uint64, limit, to, from int)) {
	for name, deed := range deeds {
		for _, of := range hashes {
			for _, limit := range tight {
				for _, c := range [][2]int{{0, 6}, {6, 8}, {9, 9}, {30, 20}} {
					if fits(limit, of, c[0], c[1]) {
						each(name, deed, of, limit, c[0], c[1])
					}
				}
			}
		}
	}
}

// outcomes: which errors calls have answered, and how often.
type outcomes map[api.Errno]int
