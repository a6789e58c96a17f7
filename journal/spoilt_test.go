package journal_test

import (
	"fmt"
	"testing"

	"larder/api"
)

// spoilt: one byte of a story's log is changed.
func (s story) spoilt(t *testing.T, at int, by byte, look bool) {
	t.Helper()
	b := []byte(s.log)
	b[at] ^= by
	what := fmt.Sprintf("P20.8: %s: the byte %d of %d is %#x", s.what, at, len(b), b[at])
	n := s.records(at)
	if n < 0 {
		refused(t, what, string(b), api.ErrLog)
		return
	}
	j := recoveredTo(t, what, string(b), n, s.log[:s.ends[n]])
	if look && state(j.Store()) != s.states[n] {
		t.Fatalf("%s: the store is not as it was behind %d records", what, n)
	}
}

// TestSpoilt: P20.8: each byte is changed, in several ways: in its head the log is refused, else the journal has just the records ahead of the one in which that byte lies.
func TestSpoilt(t *testing.T) {
	for _, s := range stories(t) {
		for at := range len(s.log) {
			for _, by := range []byte{1, 2, 8, 0x10, 0x80, 0xFF, byte(at) | 4} {
				s.spoilt(t, at, by, by == 1)
			}
		}
	}
}

// TestSpoiltAnyhow: P20.8: each byte is changed to each other byte.
func TestSpoiltAnyhow(t *testing.T) {
	list := stories(t)
	for _, s := range []story{list[0], list[1], list[4]} {
		for at := range min(len(s.log), 400) {
			for by := 1; by < 256; by++ {
				s.spoilt(t, at, byte(by), false)
			}
		}
	}
}

// TestSpoiltAndCut: P20.7, P20.8: a log with a changed byte that is cut off behind it has no more records than both leave.
func TestSpoiltAndCut(t *testing.T) {
	d := draws(20)
	for _, s := range stories(t) {
		for range 400 {
			at := d.Intn(len(s.log))
			cut := at + 1 + d.Intn(len(s.log)-at)
			b := []byte(s.log[:cut])
			b[at] ^= byte(1 + d.Intn(255))
			what := fmt.Sprintf("P20.8: %s: the byte %d is %#x, cut off at %d", s.what, at, b[at], cut)
			if n := s.records(at); n < 0 {
				refused(t, what, string(b), api.ErrLog)
			} else {
				recoveredTo(t, what, string(b), n, s.log[:s.ends[n]])
			}
		}
	}
}
