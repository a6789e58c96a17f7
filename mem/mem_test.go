package mem_test

import (
	"bytes"
	"fmt"
	"math"
	"testing"

	"larder/api"
	"larder/mem"
)

var sizes = []int{0, 1, 2, 7, 8, 12, 64}

func TestNewSizes(t *testing.T) {
	for _, size := range []int{-1, -api.MaxMem, math.MinInt, math.MinInt + 1, api.MaxMem + 1, 2 * api.MaxMem, math.MaxInt32, math.MaxUint32 + 1, math.MaxInt} {
		if m, e := mem.New(size); m != nil || e != api.ErrSize {
			t.Errorf("P1.1: New(%d): %v, error %d, want nil, ErrSize", size, m, e)
		}
	}
	for _, size := range append(sizes, 4096, 100003) {
		holds(t, zero(t, size), "P1.1: New", make([]byte, size))
	}
}

func TestNewGreatest(t *testing.T) {
	m := zero(t, api.MaxMem)
	if l := whole(t, m); bytes.Count(l, []byte{0}) != api.MaxMem {
		t.Error("P1.1: New(MaxMem): not every byte is 0")
	}
	answers(t, "P1.3: Store at the very end", m.Store(api.MaxMem-8, 8, 1<<63), api.OK)
	if v, e := m.Load(api.MaxMem-1, 1); v != 0x80 || e != api.OK {
		t.Errorf("P1.2: Load of the last byte: %#x, error %d", v, e)
	}
	answers(t, "P1.3: Store one byte too far", m.Store(api.MaxMem-7, 8, 0), api.ErrBounds)
	answers(t, "P1.4: Fill of no bytes at the end", m.Fill(api.MaxMem, 0, 1), api.OK)
	answers(t, "P1.4: Fill of a byte at the end", m.Fill(api.MaxMem, 1, 1), api.ErrBounds)
	answers(t, "P1.5: Copy down by one", m.Copy(api.MaxMem-2, api.MaxMem-1, 1), api.OK)
	if v, e := m.Load(api.MaxMem-2, 2); v != 0x8080 || e != api.OK {
		t.Errorf("P1.5: the last two bytes are %#x, error %d", v, e)
	}
	answers(t, "P1.1: Grow(MaxMem)", m.Grow(api.MaxMem), api.OK)
	answers(t, "P1.1: Grow(MaxMem+1)", m.Grow(api.MaxMem+1), api.ErrSize)
	if m.Len() != api.MaxMem {
		t.Errorf("P1.1: Len %d, want MaxMem", m.Len())
	}
}

func TestGrowToGreatest(t *testing.T) {
	m := begin(t, 5)
	answers(t, "P1.1: Grow(MaxMem)", m.Grow(api.MaxMem), api.OK)
	l := whole(t, m)
	if !bytes.Equal(l[:5], marks(5)) {
		t.Errorf("P1.1: behind Grow the old bytes are % x", l[:5])
	}
	if bytes.Count(l[5:], []byte{0}) != api.MaxMem-5 {
		t.Error("P1.1: Grow(MaxMem): not every new byte is 0")
	}
}

func TestGrowNear(t *testing.T) {
	m := begin(t, 3)
	answers(t, "P1.1: Grow(MaxMem-1)", m.Grow(api.MaxMem-1), api.OK)
	answers(t, "P1.1: Grow(MaxMem+1)", m.Grow(api.MaxMem+1), api.ErrSize)
	if m.Len() != api.MaxMem-1 {
		t.Errorf("P1.1: Len %d behind a refused Grow, want MaxMem-1", m.Len())
	}
	answers(t, "P1.1: Fill of all", m.Fill(0, api.MaxMem-1, 9), api.OK)
	answers(t, "P1.1: Grow(MaxMem)", m.Grow(api.MaxMem), api.OK)
	if v, e := m.Load(api.MaxMem-2, 2); v != 9 || e != api.OK {
		t.Errorf("P1.1: the last old byte and the new one are %#x, error %d, want 0x0009", v, e)
	}
}

func TestGrowRefused(t *testing.T) {
	for _, size := range sizes {
		m := begin(t, size)
		for _, to := range []int{size - 1, size / 2, -1, -size, math.MinInt, math.MinInt + size, api.MaxMem + 1, math.MaxInt32, math.MaxInt} {
			if to == size {
				continue // half of nothing
			}
			answers(t, fmt.Sprintf("P1.1: %d bytes: Grow(%d)", size, to), m.Grow(to), api.ErrSize)
			holds(t, m, fmt.Sprintf("P1.1: a refused Grow(%d)", to), marks(size))
		}
		answers(t, "P1.1: Grow to the size that it has", m.Grow(size), api.OK)
		holds(t, m, "P1.1: Grow to the size that it has", marks(size))
	}
}

// Steps of many lengths, with every byte written in between: old bytes stay, new ones are 0 even where there was room for them ahead of time.
func TestGrowSteps(t *testing.T) {
	for _, step := range []int{1, 2, 3, 16, 100} {
		m, want := zero(t, 0), []byte{}
		for i := range 200 {
			answers(t, "P1.1: Grow", m.Grow(len(want)+step), api.OK)
			want = append(want, make([]byte, step)...)
			if m.Len() != len(want) {
				t.Fatalf("P1.1: Len %d, want %d", m.Len(), len(want))
			}
			holds(t, m, "P1.1: Grow", want)
			at := len(want) - step
			answers(t, "P1.4: Fill", m.Fill(at, step, mark(i)), api.OK)
			copy(want[at:], bytes.Repeat([]byte{mark(i)}, step))
			answers(t, "P1.4: a Fill behind the end", m.Fill(len(want), 1, 0xEE), api.ErrBounds)
			answers(t, "P1.8: a Write over the end", m.Write(at, bytes.Repeat([]byte{0xEE}, step+1)), api.ErrBounds)
		}
	}
}

func TestLoad(t *testing.T) {
	m := zero(t, 10)
	answers(t, "P1.8: Write", m.Write(0, []byte{0x01, 0x82, 0x03, 0x84, 0x05, 0x86, 0x07, 0x88, 0xF9, 0xFF}), api.OK)
	for _, c := range []struct {
		off, width int
		v          uint64
	}{
		{0, 1, 0x01}, {1, 1, 0x82}, {9, 1, 0xFF},
		{0, 2, 0x8201}, {1, 2, 0x0382}, {8, 2, 0xFFF9},
		{0, 4, 0x84038201}, {3, 4, 0x07860584}, {6, 4, 0xFFF98807},
		{0, 8, 0x8807860584038201}, {1, 8, 0xF988078605840382}, {2, 8, 0xFFF9880786058403},
	} {
		if v, e := m.Load(c.off, c.width); v != c.v || e != api.OK {
			t.Errorf("P1.2: Load(%d, %d) = %#x, error %d, want %#x", c.off, c.width, v, e, c.v)
		}
	}
	holds(t, m, "P1.9: Load", []byte{0x01, 0x82, 0x03, 0x84, 0x05, 0x86, 0x07, 0x88, 0xF9, 0xFF})
}

func wrongWidths() []int {
	return []int{0, 3, 5, 6, 7, 9, 10, 12, 15, 16, 32, 64, 256, -1, -2, -4, -8, math.MinInt, math.MinInt + 8, math.MaxInt, math.MaxInt - 7, 1<<32 + 1, 1<<32 + 8}
}

func TestWrongWidths(t *testing.T) {
	for _, size := range sizes {
		m := begin(t, size)
		for _, width := range wrongWidths() {
			for _, off := range edges(size) {
				if v, e := m.Load(off, width); v != 0 || e != api.ErrWidth {
					t.Fatalf("P1.2: Load(%d, %d) = %#x, error %d, want 0, ErrWidth", off, width, v, e)
				}
				if e := m.Store(off, width, math.MaxUint64); e != api.ErrWidth {
					t.Fatalf("P1.3: Store(%d, %d): error %d, want ErrWidth", off, width, e)
				}
			}
		}
		holds(t, m, "P1.3: calls with a wrong width", marks(size))
	}
}

func TestNumbersAtEdges(t *testing.T) {
	for _, size := range sizes {
		for _, width := range []int{1, 2, 4, 8} {
			for _, off := range edges(size) {
				m, want := begin(t, size), boundsOf(lies(size, off, width))
				v, e := m.Load(off, width)
				answers(t, fmt.Sprintf("P1.2: %d bytes: Load(%d, %d)", size, off, width), e, want)
				if e != api.OK && v != 0 {
					t.Fatalf("P1.2: Load(%d, %d) beside an error: %#x", off, width, v)
				}
				answers(t, fmt.Sprintf("P1.3: %d bytes: Store(%d, %d)", size, off, width), m.Store(off, width, 0), want)
				if want != api.OK {
					holds(t, m, "P1.3: a refused Store", marks(size))
				}
			}
		}
	}
}

func TestStore(t *testing.T) {
	for _, v := range []uint64{0, 1, 0xFF, 0x100, 0xABCD, 0x11223344AABBCCDD, 0xFFFFFFFF00000000, 1 << 63, math.MaxUint64} {
		for _, width := range []int{1, 2, 4, 8} {
			for off := range 12 - width + 1 {
				m, want := begin(t, 12), marks(12)
				answers(t, "P1.3: Store", m.Store(off, width, v), api.OK)
				rest := v
				for i := range width {
					want[off+i] = byte(rest % 256)
					rest /= 256
				}
				holds(t, m, fmt.Sprintf("P1.3: Store(%d, %d, %#x)", off, width, v), want)
				low := v
				if width < 8 {
					low = v % (1 << (8 * width))
				}
				if got, e := m.Load(off, width); got != low || e != api.OK {
					t.Errorf("P1.2: Load(%d, %d) = %#x, error %d, want %#x", off, width, got, e, low)
				}
			}
		}
	}
}

func TestFill(t *testing.T) {
	for _, size := range sizes {
		for _, b := range []byte{0, 1, 0x7F, 0xFF} {
			for _, off := range edges(size) {
				for _, n := range edges(size) {
					m, want := begin(t, size), marks(size)
					fine := lies(size, off, n)
					what := fmt.Sprintf("P1.4: %d bytes: Fill(%d, %d, %d)", size, off, n, b)
					answers(t, what, m.Fill(off, n, b), boundsOf(fine))
					if fine {
						copy(want[off:], bytes.Repeat([]byte{b}, n))
					}
					holds(t, m, what, want)
				}
			}
		}
	}
}

// Every pair of places and every length of a small memory: both overlaps, none, and the same place twice.
func TestCopy(t *testing.T) {
	const size = 9
	for dst := range size + 2 {
		for src := range size + 2 {
			for n := range size + 2 {
				m, want := begin(t, size), marks(size)
				fine := lies(size, dst, n) && lies(size, src, n)
				what := fmt.Sprintf("P1.5: Copy(%d, %d, %d)", dst, src, n)
				answers(t, what, m.Copy(dst, src, n), boundsOf(fine))
				if fine {
					was := marks(size)
					for i := range n {
						want[dst+i] = was[src+i]
					}
				}
				holds(t, m, what, want)
			}
		}
	}
}

func TestCopyAndEqualAtEdges(t *testing.T) {
	for _, size := range sizes {
		m := begin(t, size)
		for _, a := range edges(size) {
			for _, b := range edges(size) {
				for _, n := range edges(size) {
					fine := lies(size, a, n) && lies(size, b, n)
					same, e := m.Equal(a, b, n)
					if want := fine && (a == b || n == 0); e != boundsOf(fine) || same != want {
						t.Fatalf("P1.6: %d bytes: Equal(%d, %d, %d) = %v, error %d, want %v, error %d", size, a, b, n, same, e, want, boundsOf(fine))
					}
					if fine && a != b && n > 0 {
						continue // TestCopy has those that change something
					}
					answers(t, fmt.Sprintf("P1.5: %d bytes: Copy(%d, %d, %d)", size, a, b, n), m.Copy(a, b, n), boundsOf(fine))
				}
			}
		}
		holds(t, m, "P1.5, P1.6: copies in place, refused copies, comparing", marks(size))
	}
}

func TestEqual(t *testing.T) {
	m := zero(t, 12)
	row := []byte("abcabcabdabc")
	answers(t, "P1.8: Write", m.Write(0, row), api.OK)
	for a := range 13 {
		for b := range 13 {
			for n := range 13 - max(a, b) {
				same, e := m.Equal(a, b, n)
				if want := string(row[a:a+n]) == string(row[b:b+n]); e != api.OK || same != want {
					t.Errorf("P1.6: Equal(%d, %d, %d) = %v, error %d, want %v", a, b, n, same, e, want)
				}
			}
		}
	}
	holds(t, m, "P1.6: Equal", row)
}

// A difference in any one place of two long spans is seen, and one right outside of them is not.
func TestEqualEachPlace(t *testing.T) {
	const n = 40
	m := zero(t, 2*n+4)
	for i := range n {
		answers(t, "P1.3: Store", m.Store(n+2+i, 1, 0x80), api.OK)
		if same, e := m.Equal(1, n+2, n); same || e != api.OK {
			t.Errorf("P1.6: spans that differ at %d: %v, error %d", i, same, e)
		}
		answers(t, "P1.3: Store", m.Store(n+2+i, 1, 0), api.OK)
	}
	for _, off := range []int{0, n + 1, 2*n + 2} {
		answers(t, "P1.3: Store", m.Store(off, 1, 1), api.OK)
		if same, e := m.Equal(1, n+2, n); !same || e != api.OK {
			t.Errorf("P1.6: spans that are equal, with another byte at %d: %v, error %d", off, same, e)
		}
		answers(t, "P1.3: Store", m.Store(off, 1, 0), api.OK)
	}
}

func TestRead(t *testing.T) {
	for _, size := range sizes {
		m := begin(t, size)
		for _, off := range edges(size) {
			for _, n := range edges(size) {
				l, e := m.Read(off, n)
				if !lies(size, off, n) {
					if l != nil || e != api.ErrBounds {
						t.Fatalf("P1.7: %d bytes: Read(%d, %d) = % x, error %d, want nil, ErrBounds", size, off, n, l, e)
					}
					continue
				}
				if e != api.OK || !bytes.Equal(l, marks(size)[off:off+n]) {
					t.Fatalf("P1.7: %d bytes: Read(%d, %d) = % x, error %d", size, off, n, l, e)
				}
			}
		}
		holds(t, m, "P1.9: Read", marks(size))
	}
}

// spoil: writes over a list, over its spare room too, and appends to it.
func spoil(l []byte) {
	for i := range l[:cap(l)] {
		l[:cap(l)][i] = 0xEE
	}
	_ = append(l, 0xEE, 0xEE)
	_ = append(l[:len(l)/2], 0xEE)
}

func TestReadIsNewMemory(t *testing.T) {
	for _, grown := range []bool{false, true} {
		m := begin(t, 12)
		if grown {
			answers(t, "P1.1: Grow", m.Grow(13), api.OK)
		}
		was := whole(t, m)
		first, _ := m.Read(2, 5)
		second, _ := m.Read(2, 5)
		all, _ := m.Read(0, m.Len())
		none, _ := m.Read(4, 0)
		spoil(first)
		spoil(none)
		holds(t, m, "P1.7: a list that was answered is written over", was)
		if !bytes.Equal(second, was[2:7]) || !bytes.Equal(all, was) {
			t.Errorf("P1.7: lists that were answered share memory: % x, % x", second, all)
		}
		answers(t, "P1.4: Fill", m.Fill(0, m.Len(), 0x99), api.OK)
		if !bytes.Equal(second, was[2:7]) || !bytes.Equal(all, was) {
			t.Errorf("P1.7: what is stored later changes lists that were answered: % x, % x", second, all)
		}
		answers(t, "P1.1: Grow", m.Grow(m.Len()+3), api.OK)
		holds(t, m, "P1.1: Grow behind spoilt lists", append(bytes.Repeat([]byte{0x99}, len(was)), 0, 0, 0))
	}
}
