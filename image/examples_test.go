package image_test

import (
	"bytes"
	"encoding/hex"
	"strings"
	"testing"

	"larder/api"
	"larder/image"
)

// empty: the chapter's image of a new store with the limit 4096.
func empty(t *testing.T) []byte {
	t.Helper()
	b, e := hex.DecodeString(strings.ReplaceAll(`6C 61 72 64 65 72 31 0A  00 10 00 00 00 00 00 00  00 00 00 00 00 00 00 00  01 00 00 00 00 00 00 00`+
		`00 00 00 00 00 00 00 00  00 00 00 00 00 00 00 00  00 00 00 00 00 00 00 00  56 A3 04 93 22 B0 85 68`, " ", ""))
	if e != nil || len(b) != 64 {
		t.Fatal(e)
	}
	return b
}

// TestExampleEmpty: the chapter's first example, and its table.
func TestExampleEmpty(t *testing.T) {
	b := empty(t)
	if got := save(t, begin(t, 4096)); !bytes.Equal(got, b) {
		t.Fatalf("P19.2: a new store: % x", got)
	}
	load(t, b)
	if n := image.Sum(nil); n != 0x49F00D4038DDD7BA {
		t.Errorf("P19.1: Sum of no bytes: %#x", n)
	}
	refused(t, "no bytes", nil, api.ErrImage)
	refused(t, "no bytes, but a list", []byte{}, api.ErrImage)
	refused(t, "the first 63 bytes", b[:63], api.ErrImage)
	refused(t, "a byte more", append(b[:64:64], 0), api.ErrImage)
	c := bytes.Clone(b)
	c[7] = 0x0B
	refused(t, "the head's last byte 0B", c, api.ErrImage)
	refused(t, "the head's last byte 0B, the right sum", summed(c), api.ErrImage)
	c = bytes.Clone(b)
	c[8] = 1
	refused(t, "the limit's first byte 01", c, api.ErrSum)
	refused(t, "2^64-1 overrides", with(b, 16, 1<<64-1), api.ErrImage)
	refused(t, "a limit of -1", with(b, 8, 1<<64-1), api.ErrLimit)
	refused(t, "the next handle 0", with(b, 24, 0), api.ErrHold)
}

// TestExampleOneMap: the chapter's second example.
func TestExampleOneMap(t *testing.T) {
	s := begin(t, 4096, api.Over{Key: "ab", Hash: 255})
	if h, e := s.Make(7, 0, 2, 1, 1, 1, 16); h != 1 || e != api.OK {
		t.Fatalf("Make: %d, error %d", h, e)
	}
	b := save(t, s)
	if len(b) != 218 || !bytes.Equal(b, piecesOf(s).row()) {
		t.Fatalf("P19.2: %d bytes, % x", len(b), b)
	}
	refused(t, "a key more in its header", with(b, 218-8-64, 1), api.ErrSound)
	s.Release(1)
	if b = save(t, s); len(b) != 98 {
		t.Errorf("P19.2: behind its release: %d bytes", len(b))
	}
	u := load(t, b)
	if h, e := u.Make(0, 0, 1, 1, 1, 1, 16); h != 2 || e != api.OK || u.Arena().End() != 80 {
		t.Errorf("P19.4: the block that is not live is taken again: handle %d, error %d, end %d", h, e, u.Arena().End())
	}
}
