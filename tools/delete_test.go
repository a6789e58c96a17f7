package tools_test

import (
	"fmt"
	"maps"
	"testing"

	"larder/api"
	"larder/store"
	"larder/tools"
)

// questions: what drop may be like, by the key's number modulo 7.
var questions = map[string]func(n int) bool{
	"none":    func(n int) bool { return false },
	"all":     func(n int) bool { return true },
	"some":    func(n int) bool { return n%2 == 1 },
	"hardly":  func(n int) bool { return n == 3 },
	"but few": func(n int) bool { return n != 3 },
}

// TestDeleteFunc: P18.5: drop is called once for each pair, with its key and elem; what it says yes to is gone, and counted; all else stays.
func TestDeleteFunc(t *testing.T) {
	for name, of := range hashes {
		for question, yes := range questions {
			for _, n := range sizes {
				s := two(t, 1<<21, of, n, 20)()
				was, other := finite(t, s, 1), text(t, s, 2)
				want, dropped := maps.Clone(was), 0
				maps.DeleteFunc(want, func(k, v string) bool {
					if yes(int(k[0]) % 7) {
						dropped++
						return true
					}
					return false
				})
				asked := map[string]int{}
				got, e := tools.DeleteFunc(s, 1, func(k, v string) bool {
					if asked[k]++; was[k] != v {
						t.Errorf("P18.5: drop was asked %q, %q; the elem is %q", k, v, was[k])
					}
					return yes(int(k[0]) % 7)
				})
				if got != dropped || e != api.OK || !maps.Equal(finite(t, s, 1), want) || text(t, s, 2) != other {
					t.Fatalf("P18.5: %s: DeleteFunc of %s of %d keys = %d, error %d; want %d; the map is %s", name, question, n, got, e, dropped, text(t, s, 1))
				}
				for k := range was {
					if asked[k] != 1 {
						t.Fatalf("P18.5: drop was asked for %q %d times", k, asked[k])
					}
				}
				if len(asked) != len(was) {
					t.Fatalf("P18.5: drop was asked for %d keys, there were %d", len(asked), len(was))
				}
				sound(t, s)
			}
		}
	}
}

// TestDeleteFuncAsksInOrder: P18.5: drop is asked in the order in which the map is gone through, and the deletes are done one by one, between the questions.
func TestDeleteFuncAsksInOrder(t *testing.T) {
	s := two(t, 1<<20, nil, 60, 1)()
	var want, got []string
	for k, v := range s.All(1) {
		want = append(want, k+v)
	}
	left := 60
	if n, e := tools.DeleteFunc(s, 1, func(k, v string) bool {
		got = append(got, k+v)
		if n, _ := s.Len(1); n != left {
			t.Errorf("P18.5: as drop is asked for %q there are %d keys, want %d", k, n, left)
		}
		if len(got)%3 == 0 {
			left--
		}
		return len(got)%3 == 0
	}); n != 20 || e != api.OK || fmt.Sprintf("%q", got) != fmt.Sprintf("%q", want) {
		t.Errorf("P18.5: DeleteFunc = %d, error %d; drop was asked %q, want %q", n, e, got, want)
	}
}

// TestDeleteFuncOfTheWorld: P18.5: maps on which walks stand: the walks stand where they stood, and yield what is left.
func TestDeleteFuncOfTheWorld(t *testing.T) {
	for _, h := range []int{few, many, bare, grown, longKeys, longElems} {
		asPlainly(t, fmt.Sprintf("P18.5: DeleteFunc(%d)", h), func() *store.Store { return world(t) },
			func(s *store.Store) (any, api.Errno) {
				return tools.DeleteFunc(s, h, func(k, v string) bool { return k[0]%3 != 0 })
			},
			func(s *store.Store) (any, api.Errno) {
				return plainDelete(s, h, func(k, v string) bool { return k[0]%3 != 0 })
			})
	}
}

// TestDeleteFuncDeeds: P18.5: drop puts, deletes, clears and releases in the same store; what is counted, asked for and left is what plain steps make of it.
func TestDeleteFuncDeeds(t *testing.T) {
	t.Parallel()
	seen := outcomes{}
	deedsDone(func(name string, deed func(s *store.Store, k string, n int), of func(int) uint64, limit, to, from int) {
		for _, question := range []string{"all", "some"} {
			yes := questions[question]
			for _, h := range []int{1, 2} {
				var got, want []string
				drops := func(s *store.Store, log *[]string) func(k, v string) bool {
					return func(k, v string) bool {
						*log = append(*log, k+v)
						deed(s, k, len(*log))
						return yes(len(*log) % 7)
					}
				}
				what := fmt.Sprintf("P18.5: DeleteFunc(%d) of %s of maps of %d and %d keys, limit %d, with a drop that %s", h, question, to, from, limit, name)
				_, e := asPlainly(t, what, two(t, limit, of, to, from),
					func(s *store.Store) (any, api.Errno) { return tools.DeleteFunc(s, h, drops(s, &got)) },
					func(s *store.Store) (any, api.Errno) { return plainDelete(s, h, drops(s, &want)) })
				if fmt.Sprintf("%q", got) != fmt.Sprintf("%q", want) {
					t.Fatalf("%s: drop was asked %q, want %q", what, got, want)
				}
				seen[e]++
			}
		}
	})
	if seen[api.OK] < 50 || seen[api.ErrGone] < 20 || len(seen) != 2 {
		t.Errorf("the test is too tame, or a delete was refused for memory: %v", seen)
	}
}

// TestDeleteFuncCounts: P18.5: a key that drop itself has deleted is not counted; one that it has put again is deleted and counted.
func TestDeleteFuncCounts(t *testing.T) {
	s := bench(t)
	if n, e := tools.DeleteFunc(s, 1, func(k, v string) bool { s.Delete(1, k); return true }); n != 0 || e != api.OK || text(t, s, 1) != "" {
		t.Errorf("P18.5: drop deletes: %d, error %d; the map is %q", n, e, text(t, s, 1))
	}
	s = bench(t)
	if n, e := tools.DeleteFunc(s, 1, func(k, v string) bool { s.Delete(1, k); s.Put(1, k, "n"); return true }); n != 2 || e != api.OK || text(t, s, 1) != "" {
		t.Errorf("P18.5: drop deletes and puts: %d, error %d; the map is %q", n, e, text(t, s, 1))
	}
	s = bench(t)
	if n, e := tools.DeleteFunc(s, 1, func(k, v string) bool { s.Release(1); return false }); n != 0 || e != api.OK || len(s.Handles()) != 1 {
		t.Errorf("P18.5: drop releases the map and says no: %d, error %d", n, e)
	}
	s = bench(t)
	asked := 0
	if n, e := tools.DeleteFunc(s, 2, func(k, v string) bool {
		if asked++; asked == 2 {
			s.Release(2)
		}
		return true
	}); n != 0 || e != api.ErrGone || asked != 2 {
		t.Errorf("P18.5: drop releases the map at its second call and says yes: %d, error %d, asked %d times", n, e, asked)
	}
}
