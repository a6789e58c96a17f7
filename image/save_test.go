package image_test

import (
	"bytes"
	"fmt"
	"testing"

	"larder/api"
	"larder/image"
	"larder/store"
	"larder/swiss"
)

// TestSave: P19.2: the form, byte by byte, of stores of every kind; the store is as it was, and a second image is the same.
func TestSave(t *testing.T) {
	for _, sh := range shapes {
		t.Run(sh.name, func(t *testing.T) {
			s := sh.build(t)
			was, want := state(s), piecesOf(s).row()
			for range 2 {
				b, e := image.Save(s)
				if e != api.OK || !bytes.Equal(b, want) {
					t.Fatalf("P19.2: Save: error %d, % x, want % x", e, b, want)
				}
				if state(s) != was {
					t.Fatal("P19.2: Save has changed the store")
				}
			}
		})
	}
}

// TestShapes: the stores of these tests have what an image may hold.
func TestShapes(t *testing.T) {
	var deep, deleted, first, between, last int
	for _, sh := range shapes {
		s := sh.build(t)
		for _, r := range s.Roots() {
			m := swiss.At(s.Arena(), r.Layout, s.Oracle(), r.Off)
			if d, yes, _ := m.Dir(); yes && d.Depth() > 0 {
				deep++
			}
		}
		for off, size := range s.Arena().Blocks() {
			b, _ := s.Arena().Read(off, size)
			deleted += bytes.Count([]byte(b), []byte{254})
		}
		parts := s.Arena().Parts()
		for i, p := range parts {
			switch {
			case p.Live:
			case i == 0:
				first++
			case i == len(parts)-1:
				last++
			default:
				between++
			}
		}
	}
	if deep < 3 || deleted < 3 || first == 0 || between == 0 || last == 0 {
		t.Errorf("the stores are too tame: %d directories of some depth, %d marks, free blocks %d, %d, %d", deep, deleted, first, between, last)
	}
}

// TestWalks: P19.2: a walk that is not released is answered by ErrWalks, be it new, on its way or done, whichever map it is over; released, alone or with its map, it is not seen any more.
func TestWalks(t *testing.T) {
	for steps := range 12 {
		for over := 1; over <= 3; over++ {
			for _, release := range []string{"the walk", "its map", "both"} {
				s := begin(t, 1<<16)
				made(t, s, 1, chapter, numbers(0, 5)...)
				made(t, s, 2, chapter, numbers(0, 9)...)
				made(t, s, 3, chapter)
				if _, e := image.Save(s); e != api.OK {
					t.Fatalf("P19.2: Save without a walk: error %d", e)
				}
				h, _ := s.Open(over, 3, 4)
				for range steps {
					s.Next(h)
				}
				hasWalks(t, fmt.Sprintf("a walk over %d, %d steps", over, steps), s)
				s.Release(map[string][]int{"the walk": {h}, "its map": {over}, "both": {h, over}}[release]...)
				if b := save(t, s); !bytes.Equal(b, piecesOf(s).row()) {
					t.Fatalf("P19.2: behind the release of %s: % x", release, b)
				}
			}
		}
	}
}

// hasWalks: Save is refused, and the store is as it was.
func hasWalks(t *testing.T, what string, s *store.Store) {
	t.Helper()
	was := state(s)
	if b, e := image.Save(s); b != nil || e != api.ErrWalks {
		t.Fatalf("P19.2: %s: Save = %d bytes, error %d", what, len(b), e)
	}
	if state(s) != was {
		t.Fatalf("P19.2: %s: the refused Save has changed the store", what)
	}
}

// TestSeveralWalks: P19.2: as long as one of them is left; one whose map was cleared, and one that stands on a retired block, too.
func TestSeveralWalks(t *testing.T) {
	s := begin(t, 1<<16)
	h := made(t, s, 1, chapter, numbers(0, 8)...)
	var walks []int
	for n := range 4 {
		w, _ := s.Open(h, 0, uint64(n))
		s.Next(w)
		walks = append(walks, w)
	}
	s.Put(h, key(2, 8), "x") // the block is retired
	for i, w := range walks {
		hasWalks(t, fmt.Sprintf("%d walks released", i), s)
		if i == 2 {
			s.Clear(h, 5)
			hasWalks(t, "a cleared map", s)
			s.Next(w)
			hasWalks(t, "a cleared map, a walk that is done", s)
		}
		s.Release(w)
	}
	if b := save(t, s); !bytes.Equal(b, piecesOf(s).row()) {
		t.Errorf("P19.2: behind the release of all walks: % x", b)
	}
}

// TestWalkWithoutPairs: P19.2: a walk over a bare map counts, though it stands on nothing.
func TestWalkWithoutPairs(t *testing.T) {
	s := bareMap(t)
	w, _ := s.Open(1, 0, 0)
	hasWalks(t, "a new walk over a bare map", s)
	s.Next(w)
	hasWalks(t, "a walk over a bare map, done", s)
	s.Release(w)
	save(t, s)
}

// TestSavedIsNew: P19.2, W3: the answer is new memory, its spare room too.
func TestSavedIsNew(t *testing.T) {
	for _, sh := range shapes {
		s := sh.build(t)
		was, b, c := state(s), save(t, s), save(t, s)
		want := bytes.Clone(b)
		scribble(b)
		if !bytes.Equal(c, want) || state(s) != was || !bytes.Equal(save(t, s), want) {
			t.Fatalf("W3: %s: what is written over an image is seen elsewhere", sh.name)
		}
	}
}

// scribble: all bytes are changed, those of the spare room too.
func scribble(b []byte) {
	b = b[:cap(b)]
	for i := range b {
		b[i] ^= 0xA5
	}
}
