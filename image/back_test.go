package image_test

import (
	"bytes"
	"fmt"
	"strings"
	"testing"

	"larder/api"
	"larder/image"
	"larder/store"
)

// TestBackAndThere: P19.5: of what is taken Save answers the bytes again; a store that is loaded and looked at, too.
func TestBackAndThere(t *testing.T) {
	for _, sh := range shapes {
		b := save(t, sh.build(t))
		for range 3 {
			s := load(t, b)
			if c := save(t, s); !bytes.Equal(b, c) {
				t.Fatalf("P19.5: %s: % x, want % x", sh.name, c, b)
			}
			state(s)
			b = save(t, s)
		}
	}
}

// takens: changes of the base that make another image, and one that is taken.
func takens() []fault {
	l := []fault{
		{what: "the greatest limit", do: func(p *pieces) { p.limit = api.MaxLimit }},
		{what: "a limit that is just enough", do: func(p *pieces) { p.limit = uint64(len(p.live)) }},
		{what: "no overrides", do: func(p *pieces) { p.overs, p.over = 0, nil }},
		{what: "overrides in another order", do: func(p *pieces) { p.over[0], p.over[2] = p.over[2], p.over[0] }},
		{what: "an override's other key", do: func(p *pieces) { p.over[0].key = "zz" }},
		{what: "an override's key of 128 bytes", do: func(p *pieces) { p.over[0].count, p.over[0].key = 128, strings.Repeat("k", 128) }},
		{what: "64 overrides", do: func(p *pieces) {
			p.overs = 64
			for n := 3; n < 64; n++ {
				p.over = append(p.over, over{9, key(9, n), -uint64(n)})
			}
		}},
		{what: "an override's other hash", do: func(p *pieces) { p.over[2].hash = 1<<64 - 1 }},
		{what: "the next handle 6", do: func(p *pieces) { p.next = 6 }},
		{what: "the next handle 77", do: func(p *pieces) { p.next = 77 }},
		{what: "the greatest next handle", do: func(p *pieces) { p.next = 1 << 62 }},
		{what: "other handles", do: func(p *pieces) { p.next, p.kept[0][0], p.kept[1][0], p.kept[2][0] = 1<<62, 2, 1<<32, 1<<62-1 }},
		{what: "maps in another order", do: func(p *pieces) {
			p.kept[0], p.kept[2] = p.kept[2], p.kept[0]
			p.kept[0][0], p.kept[2][0] = p.kept[2][0], p.kept[0][0]
		}},
		{what: "another cap", do: func(p *pieces) { p.kept[0][6] = 1024 }},
		{what: "another alignment", do: func(p *pieces) { p.kept[0][4] = 2 }},
		{what: "a bare map's other widths", do: func(p *pieces) { p.kept[2] = kept{4, p.kept[2][1], 128, 0, 8, 8, 512} }},
		{what: "a map's other bytes", do: func(p *pieces) { p.change(64+32+8+2, 1) }}, // slot 0's elem
		{what: "a bare map's other seed", do: func(p *pieces) { p.change(len(p.live)-64+8, 255) }},
		{what: "other births", do: func(p *pieces) { p.change(len(p.live)-64+16+7, 0x40) }},
		{what: "another epoch", do: func(p *pieces) { p.change(len(p.live)-64+24+7, 0x40) }},
		{what: "pins", do: func(p *pieces) { p.change(64+8, 1) }},
		{what: "a limit that is one more", do: func(p *pieces) { p.limit++ }},
	}
	for _, size := range []uint64{16, 48, 1024} {
		l = append(l, fault{what: fmt.Sprint("a free part more of ", size), do: func(p *pieces) { p.parts, p.part = p.parts+1, append(p.part, part{size, 0}) }})
	}
	return l
}

// TestTaken: P19.5: images that no store was saved as, but that are taken: other numbers, bytes of which no rule says anything. Each of them comes back, and no two of them are of stores that are alike.
func TestTaken(t *testing.T) {
	p := base(t)
	seen := map[string]string{state(load(t, p.row())): "the base"}
	for _, f := range takens() {
		q := p.clone()
		f.do(&q)
		b := q.row()
		if bytes.Equal(b, p.row()) {
			t.Errorf("%s: nothing has changed", f.what)
		}
		if e := asPlainly(t, f.what, b); e != api.OK {
			t.Errorf("P19.3: %s: error %d", f.what, e)
			continue
		}
		s := load(t, b)
		if other, met := seen[state(s)]; met {
			t.Errorf("P19.5: %s, and %s: two images of stores that are alike", f.what, other)
		}
		seen[state(s)] = f.what
	}
}

// TestNextHandle: P19.3, P19.4: the next handle is the image's, up to 2^62; behind that a store goes on, and its image is not taken any more.
func TestNextHandle(t *testing.T) {
	for _, next := range []int{1, 2, 77, 1<<32 + 5, 1<<62 - 1, 1 << 62} {
		p := piecesOf(begin(t, 4096))
		p.next = uint64(next)
		s := load(t, p.row())
		if _, e := s.Len(next - 1); next > 1 && e != api.ErrGone {
			t.Errorf("P19.4: a handle ahead of the next one, %d: error %d", next, e)
		}
		if h, e := s.Make(0, 0, chapter...); h != next || e != api.OK {
			t.Errorf("P19.4: the next handle %d: %d, error %d", next, h, e)
		}
		want := api.OK
		if next == 1<<62 {
			want = api.ErrHold
		}
		if _, e := image.Load(save(t, s)); e != want {
			t.Errorf("P19.3: behind the handle %d: error %d, want %d", next, e, want)
		}
	}
}

// TestBirthsAndEpochs: P19.3, P19.4: births and epochs are taken up to 2^62, and go on behind that; an image that tells more is not taken.
func TestBirthsAndEpochs(t *testing.T) {
	for _, at := range []int{16, 24} {
		for v, want := range map[uint64]api.Errno{0: api.OK, 5: api.OK, 1<<62 - 1: api.OK, 1 << 62: api.OK, 1<<62 + 1: api.ErrSound, 1<<63 - 1: api.ErrSound, 1 << 63: api.ErrSound, 1<<64 - 1: api.ErrSound} {
			p := piecesOf(bareMap(t))
			p.live = p.live[:at] + string(word(v)) + p.live[at+8:]
			if e := asPlainly(t, fmt.Sprint("the word at ", at, " is ", v), p.row()); e != want {
				t.Errorf("P19.3: the word at %d is %d: error %d, want %d", at, v, e, want)
			}
			if want != api.OK {
				continue
			}
			s := load(t, p.row())
			s.Put(1, "ab", "c")
			s.Put(1, "cd", "c")
			s.Clear(1, 0)
			want := api.OK
			if v > 1<<62-1 || at == 16 && v > 1<<62-2 {
				want = api.ErrSound
			}
			if _, e := image.Load(save(t, s)); e != want {
				t.Errorf("P19.3: behind two puts and a clear, the word at %d was %d: error %d, want %d", at, v, e, want)
			}
		}
	}
}

// TestPins: P19.3, P19.5: what was pinned, and what is retired, is taken as the audit takes it, and comes back; walks over such a map go as they do.
func TestPins(t *testing.T) {
	s := begin(t, 1<<16)
	h := made(t, s, 1, chapter, numbers(0, 8)...)
	w, _ := s.Open(h, 0, 0)
	s.Next(w)
	s.Put(h, key(2, 8), "x")
	p := piecesOf(s) // Save does not answer that: a walk is there
	if e := asPlainly(t, "a retired block", p.row()); e != api.OK {
		t.Fatalf("P19.3: a retired block: error %d", e)
	}
	u := load(t, p.row())
	if len(u.Handles()) != 1 {
		t.Errorf("P19.3: a walk is kept: handles %v", u.Handles())
	}
	if e := u.Release(h); e != api.OK || u.Live() != 0 {
		t.Errorf("P19.4: behind the release of a map with a retired block: %d live bytes, error %d", u.Live(), e)
	}
}

// TestOneImageAState: P19.5: stores that are alike have one image, stores that are not have two.
func TestOneImageAState(t *testing.T) {
	images, states := map[string]int{}, map[string]int{}
	for seed := range 40 {
		d := draws(int64(seed))
		s, u := begin(t, 4096), begin(t, 4096)
		for range 30 {
			c := d.command(s)
			both(t, "twins", s, u, c)
			for _, x := range []*store.Store{s, u} {
				x.Release(walksOf(x)...)
			}
			b := save(t, s)
			if !bytes.Equal(b, save(t, u)) {
				t.Fatal("P19.5: two stores that are alike have two images")
			}
			images[string(b)]++
			states[state(s)]++
		}
	}
	if len(images) != len(states) || len(images) < 300 {
		t.Errorf("P19.5: %d states have %d images", len(states), len(images))
	}
}
