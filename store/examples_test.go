package store_test

import (
	"slices"
	"testing"

	"larder/api"
	"larder/store"
)

// tells: the command answers that.
func tells(t *testing.T, s *store.Store, c api.Cmd, want api.Answer) {
	t.Helper()
	want.Op = c.Op
	if a := play(s, c); a != want {
		t.Fatalf("the chapter's examples: %s %#v = %#v, want %#v", names[c.Op], c, a, want)
	}
}

func handlesAre(t *testing.T, s *store.Store, want ...int) {
	t.Helper()
	if hs := s.Handles(); !slices.Equal(hs, want) {
		t.Fatalf("the chapter's examples: Handles = %v, want %v", hs, want)
	}
}

func givesNothing(t *testing.T, s *store.Store, h int) {
	t.Helper()
	for k := range s.All(h) {
		t.Fatalf("the chapter's examples: All(%d) gives %q", h, k)
	}
}

func TestExample1(t *testing.T) {
	_, e := store.New(-1, api.Over{})
	answers(t, "New(-1, an empty key)", e, api.ErrLimit)
	_, e = store.New(100, api.Over{})
	answers(t, "New(100, an empty key)", e, api.ErrLong)
	_, e = store.New(65536, api.Over{Key: "a"}, api.Over{Key: "a"})
	answers(t, "New(65536, a key twice)", e, api.ErrTwice)
}

// TestExamples2To9: one store, from one example to the next.
func TestExamples2To9(t *testing.T) {
	s := begin(t, 65536)
	none := api.Answer{}
	fails := func(c api.Cmd, e api.Errno) { t.Helper(); tells(t, s, c, api.Answer{Err: e}) }
	fails(api.Cmd{Op: api.OpMake, U: 7, Fields: []int{1, 1, 1, 1}}, api.ErrFields)
	fails(api.Cmd{Op: api.OpMake, U: 7, N: -1, Fields: []int{0, 1, 1, 1, 16}}, api.ErrKey)
	fails(api.Cmd{Op: api.OpMake, U: 7, N: 4097, Fields: chapter}, api.ErrHint)
	tells(t, s, api.Cmd{Op: api.OpMake, U: 7, Fields: chapter}, api.Answer{N: 1})

	tells(t, s, api.Cmd{Op: api.OpPut, H: 1, Key: "a", Elem: "x"}, api.Answer{Yes: true})
	tells(t, s, api.Cmd{Op: api.OpPut, H: 1, Key: "a", Elem: "y"}, none)
	tells(t, s, api.Cmd{Op: api.OpGet, H: 1, Key: "a"}, api.Answer{Elem: "y", Yes: true})
	tells(t, s, api.Cmd{Op: api.OpGet, H: 1, Key: "b"}, none)
	tells(t, s, api.Cmd{Op: api.OpLen, H: 1}, api.Answer{N: 1})
	fails(api.Cmd{Op: api.OpGet, H: 2, Key: "abc"}, api.ErrHandle)
	fails(api.Cmd{Op: api.OpGet, H: 1, Key: "abc"}, api.ErrKeyWidth)
	fails(api.Cmd{Op: api.OpGet, H: 0, Key: "a"}, api.ErrHandle)
	fails(api.Cmd{Op: api.OpGet, H: -1, Key: "a"}, api.ErrHandle)

	tells(t, s, api.Cmd{Op: api.OpClone, H: 1}, api.Answer{N: 2})
	tells(t, s, api.Cmd{Op: api.OpPut, H: 2, Key: "a", Elem: "z"}, none)
	tells(t, s, api.Cmd{Op: api.OpGet, H: 1, Key: "a"}, api.Answer{Elem: "y", Yes: true})

	tells(t, s, api.Cmd{Op: api.OpOpen, H: 1}, api.Answer{N: 3})
	fails(api.Cmd{Op: api.OpGet, H: 3, Key: "a"}, api.ErrKind)
	fails(api.Cmd{Op: api.OpNext, H: 1}, api.ErrKind)
	fails(api.Cmd{Op: api.OpOpen, H: 3}, api.ErrKind)
	tells(t, s, api.Cmd{Op: api.OpNext, H: 3}, api.Answer{Key: "a", Elem: "y", Yes: true})
	tells(t, s, api.Cmd{Op: api.OpNext, H: 3}, none)
	tells(t, s, api.Cmd{Op: api.OpNext, H: 3}, none)

	handlesAre(t, s, 1, 2, 3)
	fails(api.Cmd{Op: api.OpRelease, Hs: []int{3, 9, 3}}, api.ErrHandle)
	fails(api.Cmd{Op: api.OpRelease, Hs: []int{3, 3}}, api.ErrAgain)
	handlesAre(t, s, 1, 2, 3)

	tells(t, s, api.Cmd{Op: api.OpOpen, H: 1}, api.Answer{N: 4})
	tells(t, s, api.Cmd{Op: api.OpRelease, Hs: []int{1}}, none)
	fails(api.Cmd{Op: api.OpNext, H: 3}, api.ErrGone)
	fails(api.Cmd{Op: api.OpNext, H: 4}, api.ErrGone)
	fails(api.Cmd{Op: api.OpGet, H: 3, Key: "a"}, api.ErrGone)
	fails(api.Cmd{Op: api.OpLen, H: 1}, api.ErrGone)
	handlesAre(t, s, 2)

	tells(t, s, api.Cmd{Op: api.OpMake, U: 7, Fields: chapter}, api.Answer{N: 5})
	tells(t, s, api.Cmd{Op: api.OpRelease, Hs: []int{5, 2}}, none)
	tells(t, s, api.Cmd{Op: api.OpLive}, none)
	tells(t, s, api.Cmd{Op: api.OpRelease}, none)

	givesNothing(t, s, 2)
	givesNothing(t, s, 77)
}

func TestExample10(t *testing.T) {
	s := begin(t, 100)
	tells(t, s, api.Cmd{Op: api.OpMake, U: 7, Fields: chapter}, api.Answer{N: 1})
	tells(t, s, api.Cmd{Op: api.OpLive}, api.Answer{N: 64})
	tells(t, s, api.Cmd{Op: api.OpMake, U: 7, Fields: chapter}, api.Answer{Err: api.ErrMemory})
	tells(t, s, api.Cmd{Op: api.OpPut, H: 1, Key: "a", Elem: "x"}, api.Answer{Err: api.ErrMemory})
	tells(t, s, api.Cmd{Op: api.OpLen, H: 1}, api.Answer{})
	handlesAre(t, s, 1)
}

func TestExample11(t *testing.T) {
	s := begin(t, 65536)
	made(t, s, "a")
	_, e := s.Clone(1)
	answers(t, "Clone", e, api.OK)
	l := lay(t, chapter)
	want := api.Hold{Next: 3, Maps: []api.Kept{{Handle: 1, Root: api.Root{Off: 16, Layout: l}}, {Handle: 2, Root: api.Root{Off: 272, Layout: l}}}}
	sameHold(t, "the chapter's examples", s.Hold(), want)
	for name, change := range map[string]func(h *api.Hold){
		"Next 2":                       func(h *api.Hold) { h.Next = 2 },
		"Next 0":                       func(h *api.Hold) { h.Next = 0 },
		"the first map's offset 80":    func(h *api.Hold) { h.Maps[0].Root.Off = 80 },
		"the other map's offset 80":    func(h *api.Hold) { h.Maps[1].Root.Off = 80 },
		"the offset 16 for both maps":  func(h *api.Hold) { h.Maps[1].Root.Off = 16 },
		"the offset 272 for both maps": func(h *api.Hold) { h.Maps[0].Root.Off = 272 },
	} {
		h := s.Hold()
		change(&h)
		u, e := store.Restore(h, twin(t, s.Arena()))
		if u != nil || e != api.ErrHold {
			t.Errorf("the chapter's examples: Restore with %s: error %d, want %d", name, e, api.ErrHold)
		}
	}
	u := again(t, s)
	tells(t, u, api.Cmd{Op: api.OpGet, H: 2, Key: "a"}, api.Answer{Elem: "x", Yes: true})
}
