package mem_test

import (
	"bytes"
	"testing"

	"larder/api"
	"larder/mem"
)

// TestExamples: the chapter's table, a row behind the other, on one memory.
func TestExamples(t *testing.T) {
	m := zero(t, 12)
	answers(t, "Store(2, 4, 0x11223344AABBCCDD)", m.Store(2, 4, 0x11223344AABBCCDD), api.OK)
	holds(t, m, "Store", []byte{0, 0, 0xDD, 0xCC, 0xBB, 0xAA, 0, 0, 0, 0, 0, 0})
	loads(t, m, 2, 2, 0xCCDD, api.OK)
	loads(t, m, 4, 8, 0xAABB, api.OK)
	loads(t, m, 5, 8, 0, api.ErrBounds)
	loads(t, m, 0, 3, 0, api.ErrWidth)
	loads(t, m, -1, 3, 0, api.ErrWidth)
	answers(t, "Copy(3, 2, 4)", m.Copy(3, 2, 4), api.OK)
	holds(t, m, "Copy", []byte{0, 0, 0xDD, 0xDD, 0xCC, 0xBB, 0xAA, 0, 0, 0, 0, 0})
	equals(t, m, 2, 3, 1, true, api.OK)
	equals(t, m, 2, 3, 2, false, api.OK)
	equals(t, m, 0, 12, 1, false, api.ErrBounds)
	equals(t, m, 0, 12, 0, true, api.OK)
	answers(t, "Write(9, ab, nil, c)", m.Write(9, []byte("ab"), nil, []byte("c")), api.OK)
	answers(t, "Write(9, xy, zz)", m.Write(9, []byte("xy"), []byte("zz")), api.ErrBounds)
	if l, e := m.Read(8, 4); e != api.OK || !bytes.Equal(l, []byte{0, 0x61, 0x62, 0x63}) {
		t.Errorf("Read(8, 4) = % x, error %d", l, e)
	}
	answers(t, "Fill(12, 0, 7)", m.Fill(12, 0, 7), api.OK)
	answers(t, "Fill(13, 0, 7)", m.Fill(13, 0, 7), api.ErrBounds)
	answers(t, "Fill(1, 9223372036854775807, 7)", m.Fill(1, 9223372036854775807, 7), api.ErrBounds)
	answers(t, "Grow(11)", m.Grow(11), api.ErrSize)
	answers(t, "Grow(12)", m.Grow(12), api.OK)
	holds(t, m, "refused calls, a Fill of no bytes and a Grow by none", []byte{0, 0, 0xDD, 0xDD, 0xCC, 0xBB, 0xAA, 0, 0, 'a', 'b', 'c'})
	answers(t, "Grow(14)", m.Grow(14), api.OK)
	loads(t, m, 10, 4, 0x6362, api.OK)
}

func TestExamplesOfNew(t *testing.T) {
	for _, size := range []int{-1, 134217729} {
		if m, e := mem.New(size); m != nil || e != api.ErrSize {
			t.Errorf("New(%d) = %v, error %d", size, m, e)
		}
	}
	m := zero(t, 0)
	answers(t, "Fill(0, 0, 1)", m.Fill(0, 0, 1), api.OK)
	answers(t, "Fill(0, 1, 1)", m.Fill(0, 1, 1), api.ErrBounds)
}

func loads(t *testing.T, m *mem.Mem, off, width int, v uint64, e api.Errno) {
	t.Helper()
	if got, ge := m.Load(off, width); got != v || ge != e {
		t.Errorf("Load(%d, %d) = %#x, error %d, want %#x, error %d", off, width, got, ge, v, e)
	}
}

func equals(t *testing.T, m *mem.Mem, a, b, n int, same bool, e api.Errno) {
	t.Helper()
	if got, ge := m.Equal(a, b, n); got != same || ge != e {
		t.Errorf("Equal(%d, %d, %d) = %v, error %d, want %v, error %d", a, b, n, got, ge, same, e)
	}
}
