package mem_test

import (
	"bytes"
	"math"
	"math/big"
	"testing"

	"larder/api"
	"larder/mem"
)

// begin: a memory of that size, each byte another than its neighbours, so that a byte that moved is seen.
func begin(t *testing.T, size int) *mem.Mem {
	t.Helper()
	m := zero(t, size)
	for i := range size {
		if e := m.Store(i, 1, uint64(mark(i))); e != api.OK {
			t.Fatalf("Store(%d, 1): error %d", i, e)
		}
	}
	return m
}

func mark(i int) byte { return byte(i%251 + 1) }

func marks(size int) []byte {
	l := make([]byte, size)
	for i := range l {
		l[i] = mark(i)
	}
	return l
}

// zero: a memory as New gives it.
func zero(t *testing.T, size int) *mem.Mem {
	t.Helper()
	m, e := mem.New(size)
	if e != api.OK || m == nil {
		t.Fatalf("P1.1: New(%d): %v, error %d", size, m, e)
	}
	if m.Len() != size {
		t.Fatalf("P1.1: New(%d): Len %d", size, m.Len())
	}
	return m
}

func whole(t *testing.T, m *mem.Mem) []byte {
	t.Helper()
	l, e := m.Read(0, m.Len())
	if e != api.OK || len(l) != m.Len() {
		t.Fatalf("P1.7: Read of all %d bytes: %d bytes, error %d", m.Len(), len(l), e)
	}
	return l
}

// holds: these are the memory's bytes, all of them.
func holds(t *testing.T, m *mem.Mem, what string, want []byte) {
	t.Helper()
	if got := whole(t, m); !bytes.Equal(got, want) {
		t.Fatalf("%s: the bytes are\n% x, want\n% x", what, got, want)
	}
}

func answers(t *testing.T, what string, got, want api.Errno) {
	t.Helper()
	if got != want {
		t.Fatalf("%s: error %d, want %d", what, got, want)
	}
}

// lies: the word 'inside' of the chapter, in numbers that can't wrap round.
func lies(size, off, n int) bool {
	end := new(big.Int).Add(big.NewInt(int64(off)), big.NewInt(int64(n)))
	return off >= 0 && n >= 0 && end.Cmp(big.NewInt(int64(size))) <= 0
}

// boundsOf: the error that spans which must lie inside are answered with.
func boundsOf(fine bool) api.Errno {
	if fine {
		return api.OK
	}
	return api.ErrBounds
}

// edges: the places and lengths at which a check of bounds goes wrong, if it does.
func edges(size int) []int {
	return []int{
		math.MinInt, math.MinInt + 1, math.MinInt + size, math.MinInt32, -size - 1, -size, -8, -1,
		0, 1, 2, size / 2, size - 1, size, size + 1,
		api.MaxMem, api.MaxMem + 1, math.MaxInt32, math.MaxUint32, math.MaxInt - size, math.MaxInt - 8, math.MaxInt - 1, math.MaxInt,
	}
}
