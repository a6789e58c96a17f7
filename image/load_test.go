package image_test

import (
	"bytes"
	"fmt"
	"strings"
	"testing"

	"larder/api"
	"larder/image"
)

// TestLoad: P19.3: the image of each kind of store is taken, and the store is what was saved.
func TestLoad(t *testing.T) {
	for _, sh := range shapes {
		s := sh.build(t)
		b := save(t, s)
		if e := asPlainly(t, sh.name, b); e != api.OK {
			t.Errorf("P19.3: %s: error %d", sh.name, e)
		}
		if u := load(t, b); state(u) != state(s) {
			t.Errorf("P19.3: %s: the loaded store is another", sh.name)
		}
	}
}

// base: a store whose image can be spoilt in every way: overrides, a small map, one with a table, a bare one, free blocks.
func base(t testing.TB) pieces {
	t.Helper()
	s := begin(t, 4096, api.Over{Key: "ab", Hash: 255}, api.Over{Key: "c", Hash: 1}, api.Over{Key: "dd", Hash: 1 << 63})
	made(t, s, 1, chapter, 1, 2, 3)
	made(t, s, 2, chapter)
	made(t, s, 3, []int{1, 1, 1, 1, 16}, numbers(0, 10)...)
	made(t, s, 4, []int{5, 4, 1, 4, 64})
	if e := s.Release(2); e != api.OK {
		t.Fatalf("Release: error %d", e)
	}
	p := piecesOf(s)
	ofClass := map[uint64]uint64{}
	for _, q := range p.part {
		ofClass[q[0]] += q[0]
	}
	if len(p.kept) != 3 || len(p.live) != 64*4+192+384+16 || ofClass[64] != 5*64 {
		t.Fatalf("the base: %d maps, %d live bytes, %d bytes in headers", len(p.kept), len(p.live), ofClass[64])
	}
	return p
}

// fault: one thing that is wrong, in which piece, with its error; of two the one with the lower rank is told.
type fault struct {
	what, where string
	rank        int
	e           api.Errno
	do          func(p *pieces)
}

// The ranks of the errors, in the order of the looks.
const (
	ofForm = iota
	ofSum
	ofLimit
	ofParts
	ofBytes
	ofMemory
	ofOvers
	ofHold
	ofSound
)

// faults: of the base.
func faults() []fault {
	l := []fault{
		{"another head", "head", ofForm, api.ErrImage, func(p *pieces) { p.head = "larder1\r" }},
		{"a head of another case", "head", ofForm, api.ErrImage, func(p *pieces) { p.head = "Larder1\n" }},
		{"the journal's head", "head", ofForm, api.ErrImage, func(p *pieces) { p.head = "larder2\n" }},
		{"a head that is too long", "head", ofForm, api.ErrImage, func(p *pieces) { p.head = "larder1\n\x00\x00\x00\x00\x00\x00\x00\x00" }},
		{"a head that is too short", "head", ofForm, api.ErrImage, func(p *pieces) { p.head = "larder1" }},
		{"no head", "head", ofForm, api.ErrImage, func(p *pieces) { p.head = "" }},
		{"a byte behind the last word", "tail", ofForm, api.ErrImage, func(p *pieces) { p.tail = "\x00" }},
		{"a word behind the last word", "tail", ofForm, api.ErrImage, func(p *pieces) { p.tail = string(word(0)) }},
		{"an override too few", "count of overrides", ofForm, api.ErrImage, func(p *pieces) { p.overs++ }},
		{"a map too few", "count of maps", ofForm, api.ErrImage, func(p *pieces) { p.maps++ }},
		{"many parts too few", "count of parts", ofForm, api.ErrImage, func(p *pieces) { p.parts += 100 }},
		{"a byte too few", "count of bytes", ofForm, api.ErrImage, func(p *pieces) { p.bytes++ }},
		{"a byte too many", "count of bytes", ofForm, api.ErrImage, func(p *pieces) { p.bytes-- }},
		{"a wrong sum", "sum", ofSum, api.ErrSum, func(p *pieces) { p.spoil = 1 }},
		{"another wrong sum", "sum", ofSum, api.ErrSum, func(p *pieces) { p.spoil = 1 << 63 }},
		{"a limit below 0", "limit", ofLimit, api.ErrLimit, func(p *pieces) { p.limit = 1<<64 - 1 }},
		{"the least limit", "limit", ofLimit, api.ErrLimit, func(p *pieces) { p.limit = 1 << 63 }},
		{"the greatest limit", "limit", ofLimit, api.ErrLimit, func(p *pieces) { p.limit = 1<<63 - 1 }},
		{"a limit above MaxLimit", "limit", ofLimit, api.ErrLimit, func(p *pieces) { p.limit = api.MaxLimit + 1 }},
		{"a limit below the bytes of a class", "limit", ofParts, api.ErrParts, func(p *pieces) { p.limit = 383 }},
		{"a limit of 0", "limit", ofParts, api.ErrParts, func(p *pieces) { p.limit = 0 }},
		{"a live byte too few", "bytes", ofBytes, api.ErrBytes, func(p *pieces) { p.bytes--; p.live = p.live[1:] }},
		{"a live byte too many", "bytes", ofBytes, api.ErrBytes, func(p *pieces) { p.bytes++; p.live += "\x00" }},
		{"no live bytes", "bytes", ofBytes, api.ErrBytes, func(p *pieces) { p.bytes, p.live = 0, "" }},
		{"a limit below the live bytes", "limit", ofMemory, api.ErrMemory, func(p *pieces) { p.limit = uint64(len(p.live) - 1) }},
		{"a limit far below the live bytes", "limit", ofMemory, api.ErrMemory, func(p *pieces) { p.limit = 384 }},
		{"an override's key that is empty", "overrides", ofOvers, api.ErrLong, func(p *pieces) { p.over[1].count, p.over[1].key = 0, "" }},
		{"an override's key of 129 bytes", "overrides", ofOvers, api.ErrLong, func(p *pieces) { p.over[2].count, p.over[2].key = 129, strings.Repeat("k", 129) }},
		{"an override twice", "overrides", ofOvers, api.ErrTwice, func(p *pieces) { p.over[2] = p.over[0] }},
		{"65 overrides", "overrides", ofOvers, api.ErrMany, func(p *pieces) {
			p.overs, p.over = 65, nil
			for n := range 65 {
				p.over = append(p.over, over{2, key(2, n), 7})
			}
		}},
		{"65 overrides, all empty", "overrides", ofOvers, api.ErrMany, func(p *pieces) { p.overs, p.over = 65, make([]over, 65) }},
		{"two maps with one offset", "maps", ofHold, api.ErrHold, func(p *pieces) { p.kept[1][1] = p.kept[0][1] }},
		{"maps by falling handles", "maps", ofHold, api.ErrHold, func(p *pieces) { p.kept[0], p.kept[1] = p.kept[1], p.kept[0] }},
		{"two maps with one handle", "maps", ofHold, api.ErrHold, func(p *pieces) { p.kept[1][0] = p.kept[0][0] }},
		{"a map at a small block", "maps", ofHold, api.ErrHold, func(p *pieces) { p.kept[0][1] += 64 }},
		{"a map at a free block", "maps", ofHold, api.ErrHold, func(p *pieces) { p.kept[2][1] = 16 + 64 + 192 }},
		{"a key more in the header", "live bytes", ofSound, api.ErrSound, func(p *pieces) { p.change(0, 1) }},
		{"another depth", "live bytes", ofSound, api.ErrSound, func(p *pieces) { p.change(40, 1) }},
		{"a byte of a directory", "live bytes", ofSound, api.ErrSound, func(p *pieces) { p.change(len(p.live)-65, 1) }},
		{"a map less", "maps", ofSound, api.ErrSound, func(p *pieces) { p.maps--; p.kept = p.kept[1:] }},
		{"a block that nobody has", "parts", ofSound, api.ErrSound, func(p *pieces) { p.lost(32) }},
		{"a map's other key width", "maps", ofSound, api.ErrSound, func(p *pieces) { p.kept[1][2] = 2 }},
		{"another hash of a key that is there", "overrides", ofSound, api.ErrSound, func(p *pieces) { p.over[1].key = key(1, 4) }},
	}
	for _, v := range []uint64{2, 3, 255, 256, 1 << 32, 1 << 63, 1<<64 - 1} {
		l = append(l, fault{fmt.Sprint("a part's second word is ", v), "parts", ofForm, api.ErrImage, func(p *pieces) { p.part[2][1] = v }})
	}
	for _, v := range []uint64{0, 1, 15, 24, 63, 65, 80, api.MaxBlock + 1, 2 * api.MaxBlock, 1 << 63, 1<<64 - 16, 1<<64 - 64} {
		for _, i := range []int{0, 3, 6} {
			l = append(l, fault{fmt.Sprint("the size of part ", i, " is ", v), "parts", ofParts, api.ErrParts, func(p *pieces) { p.part[i][0] = v }})
		}
	}
	l = append(l, fault{"a part of more bytes than the limit", "parts", ofParts, api.ErrParts, func(p *pieces) { p.part[2] = part{6144, 0} }},
		fault{"many free parts", "parts", ofParts, api.ErrParts, func(p *pieces) {
			for range 257 {
				p.parts, p.part = p.parts+1, append(p.part, part{16, 0})
			}
		}})
	for _, i := range []int{0, 2, 6} {
		l = append(l, fault{fmt.Sprint("part ", i, " is live, or is not"), "parts", ofBytes, api.ErrBytes, func(p *pieces) { p.part[i][1] ^= 1 }})
		l = append(l, fault{fmt.Sprint("part ", i, " has another class"), "parts", ofBytes, api.ErrBytes, func(p *pieces) {
			p.part[i] = part{256, 1}
		}})
	}
	for _, v := range []uint64{0, 1, 3, 4, 1<<62 + 1, 1<<63 - 1, 1 << 63, 1<<64 - 5} {
		l = append(l, fault{fmt.Sprint("the next handle is ", v), "next", ofHold, api.ErrHold, func(p *pieces) { p.next = v }})
	}
	for _, v := range []uint64{0, 1<<64 - 1, 1 << 63, 5, 6, 1 << 62} {
		l = append(l, fault{fmt.Sprint("a handle is ", v), "maps", ofHold, api.ErrHold, func(p *pieces) { p.kept[0][0] = v }})
	}
	for _, v := range []uint64{0, 1, 8, 17, 32, 1 << 40, 1 << 63, 1<<64 - 64} {
		l = append(l, fault{fmt.Sprint("an offset is ", v), "maps", ofHold, api.ErrHold, func(p *pieces) { p.kept[1][1] = v }})
	}
	for i, wrong := range [][]uint64{{0, 129, 1 << 63, 1<<64 - 1, 1<<32 + 2}, {129, 1 << 63, 1<<64 - 1, 1 << 32}, {0, 3, 16, 4, 1<<64 - 1}, {0, 3, 2, 8, 16, 1 << 63}, {0, 8, 15, 17, 24, 2048, 1<<32 + 16, 1<<64 - 16}} {
		for _, v := range wrong {
			l = append(l, fault{fmt.Sprint("number ", i, " of a descriptor is ", v), "maps", ofHold, api.ErrHold, func(p *pieces) { p.kept[0][2+i] = v }})
		}
	}
	return l
}

// change: that byte of the live ones is another.
func (p *pieces) change(at int, by byte) {
	b := []byte(p.live)
	b[at] ^= by
	p.live = string(b)
}

// lost: a live block more, all zero.
func (p *pieces) lost(size int) {
	p.parts++
	p.part = append(p.part, part{uint64(size), 1})
	p.bytes += uint64(size)
	p.live += strings.Repeat("\x00", size)
}

// TestFaults: P19.3: each thing that can be wrong alone.
func TestFaults(t *testing.T) {
	p := base(t)
	if e := asPlainly(t, "the base", p.row()); e != api.OK {
		t.Fatalf("the base: error %d", e)
	}
	for _, f := range faults() {
		q := p.clone()
		f.do(&q)
		refused(t, "P19.3: "+f.what, q.row(), f.e)
		asPlainly(t, f.what, q.row())
	}
}

// TestTwoFaults: P19.3: every two faults in different pieces: the first in the looks' order is told.
func TestTwoFaults(t *testing.T) {
	t.Parallel()
	p, l := base(t), faults()
	for i, f := range l {
		for _, g := range l[:i] {
			if f.where == g.where {
				continue
			}
			q := p.clone()
			f.do(&q)
			g.do(&q)
			want := f.e
			if g.rank < f.rank {
				want = g.e
			}
			b := q.row()
			asPlainly(t, f.what+"; "+g.what, b)
			if !sameBytes(f, g) {
				refused(t, "P19.3: "+f.what+"; "+g.what, b, want)
			}
		}
	}
}

// sameBytes: do both change how many bytes there are, so that one may set the other right?
func sameBytes(f, g fault) bool {
	counts := func(f fault) bool {
		return strings.HasPrefix(f.where, "count of") || f.where == "bytes" || f.where == "tail" || f.where == "head"
	}
	lists := func(f fault) bool {
		return f.where == "overrides" || f.where == "maps" || f.where == "parts" || f.where == "live bytes"
	}
	return counts(f) && (counts(g) || lists(g)) || counts(g) && lists(f)
}

// TestManyFaults: P19.3: faults of all looks together; the first is mended, one after the other, and the next one is told.
func TestManyFaults(t *testing.T) {
	of := func(what string) fault {
		for _, f := range faults() {
			if f.what == what {
				return f
			}
		}
		t.Fatalf("no fault is named %q", what)
		return fault{}
	}
	for _, names := range [][]string{
		{"another head", "a wrong sum", "a limit below 0", "the size of part 3 is 24", "no live bytes", "65 overrides", "the next handle is 0", "a handle is 0"},
		{"a part's second word is 2", "another wrong sum", "a limit above MaxLimit", "an override twice", "number 4 of a descriptor is 24", "a key more in the header"},
		{"a byte behind the last word", "a wrong sum", "a limit of 0", "a live byte too many", "an override's key that is empty", "two maps with one offset", "a key more in the header"},
		{"a wrong sum", "the size of part 0 is 80", "a live byte too few", "an override's key of 129 bytes", "the next handle is 4", "a map less"},
		{"a wrong sum", "part 2 is live, or is not", "a limit far below the live bytes", "65 overrides, all empty", "an offset is 17", "another depth"},
		{"a wrong sum", "a limit below the live bytes", "an override twice", "a map at a free block", "a byte of a directory"},
	} {
		for i := range names {
			q := base(t)
			for _, what := range names[i:] {
				of(what).do(&q)
			}
			refused(t, "P19.3: "+strings.Join(names[i:], "; "), q.row(), of(names[i]).e)
		}
	}
}

// TestEndsTooEarly: P19.3: images cut off at every length, as they are and with the right sum in their last eight bytes.
func TestEndsTooEarly(t *testing.T) {
	for _, sh := range shapes {
		b := save(t, sh.build(t))
		for n := range b {
			refused(t, fmt.Sprintf("P19.3: %s, cut off behind %d bytes", sh.name, n), b[:n], api.ErrImage)
			if n >= 8 && (n < 4000 || n%97 == 0) { // a sum takes its time
				refused(t, fmt.Sprintf("P19.3: %s, cut off behind %d bytes, the right sum", sh.name, n), summed(b[:n]), api.ErrImage)
			}
		}
	}
}

// TestCountsAtTheEnd: P19.3: what follows a count is just as long as the bytes that are left, or one thing longer.
func TestCountsAtTheEnd(t *testing.T) {
	fine := 0
	for _, name := range []string{"overrides", "maps", "parts", "bytes"} {
		for n := range 40 {
			p := piecesOf(begin(t, 4096))
			switch name {
			case "overrides":
				p.overs = uint64(n)
			case "maps":
				p.maps = uint64(n)
			case "parts":
				p.parts = uint64(n)
			case "bytes":
				p.bytes = uint64(n)
			}
			// The words behind the count are taken for the things that it tells of: zeros, so that they may be anything.
			for zeros := range 40 {
				q := p.clone()
				q.live = strings.Repeat("\x00", zeros)
				if asPlainly(t, fmt.Sprint(n, " ", name, ", ", zeros, " zeros"), q.row()) != api.ErrImage {
					fine++
				}
			}
		}
	}
	if fine < 40 {
		t.Errorf("the test is too tame: %d rows are of the form", fine)
	}
}

// TestNotKept: P19.3, W3: b is neither changed nor kept, its spare room neither; where it is refused too.
func TestNotKept(t *testing.T) {
	for _, sh := range shapes {
		s := sh.build(t)
		want := save(t, s)
		room := append(bytes.Clone(want), "behind the last byte"...)
		was := bytes.Clone(room)
		b := room[:len(want)]
		u := load(t, b)
		if !bytes.Equal(room, was) {
			t.Fatalf("W3: %s: Load changes its bytes", sh.name)
		}
		scribble(room)
		if state(u) != state(s) || !bytes.Equal(save(t, u), want) {
			t.Fatalf("W3: %s: what is written over the bytes is seen in the store", sh.name)
		}
		again(t, sh.name, s, u)
	}
	p := base(t)
	for _, f := range faults() {
		q := p.clone()
		f.do(&q)
		room := append(q.row(), "behind the last byte"...)
		was := bytes.Clone(room)
		image.Load(room[:len(room)-20])
		if !bytes.Equal(room, was) {
			t.Fatalf("W3: %s: Load changes its bytes", f.what)
		}
	}
}
