package mem_test

import (
	"bytes"
	"fmt"
	"slices"
	"testing"

	"larder/api"
)

// partings: the same text in parts of many kinds.
func partings(text string) [][][]byte {
	l := [][][]byte{{[]byte(text)}, {nil, []byte(text)}, {[]byte(text), {}}}
	var single [][]byte
	for i := range len(text) {
		single = append(single, []byte{text[i]}, nil)
	}
	for cut := range len(text) + 1 {
		l = append(l, [][]byte{[]byte(text[:cut]), []byte(text[cut:])}, [][]byte{[]byte(text[:cut]), {}, nil, []byte(text[cut:])})
	}
	return append(l, single)
}

func TestWrite(t *testing.T) {
	const size = 8
	for n := range size + 2 {
		text := "ABCDEFGHI"[:n]
		for i, parts := range partings(text) {
			for _, off := range edges(size) {
				m, want := begin(t, size), marks(size)
				fine := lies(size, off, n)
				what := fmt.Sprintf("P1.8: Write(%d) of %q, parting %d", off, text, i)
				answers(t, what, m.Write(off, parts...), boundsOf(fine))
				if fine {
					copy(want[off:], text)
				}
				holds(t, m, what, want)
			}
		}
	}
}

func TestWriteOfNoBytes(t *testing.T) {
	for _, size := range sizes {
		m := begin(t, size)
		for _, off := range edges(size) {
			want := boundsOf(lies(size, off, 0))
			answers(t, fmt.Sprintf("P1.8: %d bytes: Write(%d)", size, off), m.Write(off), want)
			answers(t, fmt.Sprintf("P1.8: %d bytes: Write(%d, nil)", size, off), m.Write(off, nil), want)
			answers(t, fmt.Sprintf("P1.8: %d bytes: Write(%d) of empty parts", size, off), m.Write(off, []byte{}, nil, []byte{}), want)
			answers(t, fmt.Sprintf("P1.8: %d bytes: Write(%d) of an empty list", size, off), m.Write(off, [][]byte{}...), want)
		}
		holds(t, m, "P1.8: Write of no bytes", marks(size))
	}
}

// The last part is the one that is too long: the first ones must not have been laid.
func TestWriteAllOrNothing(t *testing.T) {
	m := begin(t, 6)
	for _, parts := range [][]string{{"ab", "cdefg"}, {"abcdef", "g"}, {"a", "b", "c", "d", "e", "f", "g"}, {"abcdefg"}, {"", "abcdef", "", "g"}} {
		var list [][]byte
		for _, p := range parts {
			list = append(list, []byte(p))
		}
		answers(t, fmt.Sprintf("P1.8: Write(0) of %q", parts), m.Write(0, list...), api.ErrBounds)
		holds(t, m, "P1.8: a refused Write", marks(6))
	}
}

func TestWriteOneListOften(t *testing.T) {
	m := begin(t, 7)
	p := []byte("xy")
	answers(t, "P1.8: Write of one list thrice", m.Write(1, p, p, p), api.OK)
	holds(t, m, "P1.8: Write of one list thrice", []byte{1, 'x', 'y', 'x', 'y', 'x', 'y'})
	answers(t, "P1.8: Write of one list four times", m.Write(0, p, p, p, p), api.ErrBounds)
	answers(t, "P1.8: Write of overlapping parts", m.Write(0, p, p[1:], p[:1]), api.OK)
	holds(t, m, "P1.8: Write of overlapping parts", []byte("xyyxyxy"))
}

// More bytes in all than any memory has, in parts each of which would fit.
func TestWriteOfVeryMuch(t *testing.T) {
	m := zero(t, 1<<20)
	parts := slices.Repeat([][]byte{bytes.Repeat([]byte{7}, 1<<20)}, 1<<12)
	answers(t, "P1.8: Write of 2^32 bytes", m.Write(0, parts...), api.ErrBounds)
	if bytes.Count(whole(t, m), []byte{0}) != 1<<20 {
		t.Error("P1.8: a refused Write has changed something")
	}
}

func TestWriteKeepsNothing(t *testing.T) {
	m := begin(t, 8)
	room := []byte("abcdEE")
	list := [][]byte{room[:2], room[2:4], []byte("spare"), nil}
	answers(t, "P1.8: Write", m.Write(2, list[:2]...), api.OK)
	if string(room) != "abcdEE" || string(list[0]) != "ab" || string(list[1]) != "cd" || string(list[2]) != "spare" || list[3] != nil {
		t.Errorf("W3: what was handed in has changed: %q, %q", room, list)
	}
	copy(room, "......")
	list[0], list[1] = nil, nil
	want := []byte{1, 2, 'a', 'b', 'c', 'd', 7, 8}
	holds(t, m, "P1.8: parts that were written over later", want)
	answers(t, "P1.4: Fill", m.Fill(0, 8, 0x77), api.OK)
	if string(room) != "......" {
		t.Errorf("P1.8: a part was kept: %q", room)
	}
}

func TestWriteRefusedChangesNoPart(t *testing.T) {
	m := begin(t, 3)
	room := []byte("abcd")
	list := [][]byte{room[:2], room[1:3], []byte("spare")}
	answers(t, "P1.8: Write", m.Write(0, list[:2]...), api.ErrBounds)
	if string(room) != "abcd" || string(list[0]) != "ab" || string(list[1]) != "bc" || string(list[2]) != "spare" {
		t.Errorf("W3: what was handed in has changed: %q, %q", room, list)
	}
}

// A list that a memory answered is a part like any other, for it and for other memories.
func TestWriteOfAnAnswer(t *testing.T) {
	m := begin(t, 6)
	l, _ := m.Read(0, 4)
	answers(t, "P1.8: Write of what Read answered", m.Write(1, l[:2], l), api.ErrBounds)
	answers(t, "P1.8: Write of what Read answered", m.Write(1, l[2:], l[:3]), api.OK)
	holds(t, m, "P1.8: Write of what Read answered", []byte{1, 3, 4, 1, 2, 3})
	if !bytes.Equal(l, marks(4)) {
		t.Errorf("P1.7: a list that was answered has changed: % x", l)
	}
}
