package arena_test

import (
	"fmt"
	"math"
	"slices"
	"strings"
	"sync"
	"testing"

	"larder/api"
	"larder/arena"
)

// spans: an arena with two live blocks that touch, a free one, a live one with a free one at either side, and a free one last; its live bytes are marked.
func spans(t *testing.T) (*arena.Arena, []api.Part) {
	t.Helper()
	a := begin(t, 4096)
	takes(t, a, []int{16, 30, 16, 40, 20}, []int{16, 32, 64, 80, 128})
	answers(t, "P2.5: Free", a.Free(64, 128), api.OK)
	mark(t, a)
	return a, []api.Part{{Off: 16, Size: 16, Live: true}, {Off: 32, Size: 32, Live: true}, {Off: 64, Size: 16}, {Off: 80, Size: 48, Live: true}, {Off: 128, Size: 32}}
}

// places: every place of that arena, and the far ones.
func places() []int {
	l := slices.Clone(far)
	for off := range 170 {
		l = append(l, off)
	}
	return l
}

// lengths: of spans that end inside a block, at its end, one behind it, in the next block, and far off.
func lengths() []int {
	return append(slices.Clone(far), 0, 1, 2, 7, 8, 15, 16, 17, 31, 32, 33, 47, 48, 49, 64, 96, 144, 160)
}

// bytesOf: the arena's bytes by their offsets, as mark has laid them; a place without a live block has none.
func bytesOf(parts []api.Part) map[int]byte {
	l := map[int]byte{}
	for _, p := range parts {
		for i := range p.Size {
			if p.Live {
				l[p.Off+i] = marks(p.Off, p.Size)[i]
			}
		}
	}
	return l
}

// TestLoad: P2.9, at every place with every width.
func TestLoad(t *testing.T) {
	a, parts := spans(t)
	before, at := look(t, a), bytesOf(parts)
	for _, off := range places() {
		for _, width := range append(slices.Clone(far), 0, 1, 2, 3, 4, 5, 6, 7, 8, 9, 16, 32, 48) {
			want, e := uint64(0), api.ErrWidth
			if slices.Contains([]int{1, 2, 4, 8}, width) {
				e = deadOf(isGood(parts, off, width))
			}
			for i := width - 1; e == api.OK && i >= 0; i-- {
				want = 256*want + uint64(at[off+i])
			}
			if got, ge := a.Load(off, width); got != want || ge != e {
				t.Fatalf("P2.9: Load(%d, %d) = %#x, error %d, want %#x, error %d", off, width, got, ge, want, e)
			}
			if e != api.OK {
				answers(t, fmt.Sprintf("P2.9: Store(%d, %d)", off, width), a.Store(off, width, math.MaxUint64), e)
			}
		}
	}
	kept(t, "P2.9, P2.12: Load, and Store that was refused", a, before)
}

// TestStore: P2.9: the low bytes of the number, the lowest first, and no byte beside them.
func TestStore(t *testing.T) {
	const v = uint64(0xF1E2D3C4B5A69788)
	for _, width := range []int{1, 2, 4, 8} {
		for _, off := range []int{16, 17, 32 - width, 32, 35, 64 - width, 80, 99, 128 - width} {
			a, _ := spans(t)
			want := look(t, a)
			lay(&want, off, "\x88\x97\xA6\xB5\xC4\xD3\xE2\xF1"[:width])
			answers(t, fmt.Sprintf("P2.9: Store(%d, %d)", off, width), a.Store(off, width, v), api.OK)
			kept(t, fmt.Sprintf("P2.9, P2.12: Store(%d, %d), beside its span", off, width), a, want)
			if got, e := a.Load(off, width); e != api.OK || got != v<<(64-8*width)>>(64-8*width) {
				t.Errorf("P2.9: behind Store(%d, %d): %#x, error %d", off, width, got, e)
			}
		}
	}
}

// TestReadAndRefuse: P2.10, P2.11: at every place with many lengths: Read answers the bytes of a good span; a span that is not good is refused by every call, and nothing changes.
func TestReadAndRefuse(t *testing.T) {
	a, parts := spans(t)
	before, at := look(t, a), bytesOf(parts)
	for _, off := range places() {
		for _, n := range lengths() {
			good := isGood(parts, off, n)
			var want []byte
			for i := 0; good && i < n; i++ {
				want = append(want, at[off+i])
			}
			what := fmt.Sprintf("(%d, %d)", off, n)
			if got, e := a.Read(off, n); got != string(want) || e != deadOf(good) {
				t.Fatalf("P2.10: Read%s = %q, error %d, want %q, error %d", what, got, e, want, deadOf(good))
			}
			if same, e := a.Equal(off, off, n); same != good || e != deadOf(good) {
				t.Fatalf("P2.10: Equal with itself %s = %v, error %d", what, same, e)
			}
			answers(t, "P2.10: Copy to itself "+what, a.Copy(off, off, n), deadOf(good))
			if good {
				answers(t, "P2.11: Write of what is there "+what, a.Write(off, string(want)), api.OK)
				continue
			}
			answers(t, "P2.10: Fill"+what, a.Fill(off, n, 0xEE), api.ErrDead)
			answers(t, "P2.10: Copy to "+what, a.Copy(off, 80, n), api.ErrDead)
			answers(t, "P2.10: Copy from "+what, a.Copy(80, off, n), api.ErrDead)
			for _, xy := range [][2]int{{off, 80}, {80, off}} {
				if same, e := a.Equal(xy[0], xy[1], n); same || e != api.ErrDead {
					t.Fatalf("P2.10: Equal(%d, %d, %d) = %v, error %d", xy[0], xy[1], n, same, e)
				}
			}
			if n >= 0 && n <= 160 {
				answers(t, "P2.11: Write"+what, a.Write(off, "", strings.Repeat("x", n/2), strings.Repeat("y", n-n/2)), api.ErrDead)
			}
		}
	}
	kept(t, "P2.10, P2.11, P2.12: what reads, and what was refused", a, before)
}

// TestNoBytes: spans of no bytes: good in a live block and right at its end, nowhere else; none of them changes anything.
func TestNoBytes(t *testing.T) {
	a, _ := spans(t)
	before := look(t, a)
	for _, off := range places() {
		good := off >= 16 && off <= 64 || off >= 80 && off <= 128
		what := fmt.Sprintf("no bytes at %d", off)
		answers(t, "P2.10: Fill, "+what, a.Fill(off, 0, 9), deadOf(good))
		answers(t, "P2.10: Copy, "+what, a.Copy(off, 16, 0), deadOf(good))
		answers(t, "P2.10: Copy, "+what, a.Copy(16, off, 0), deadOf(good))
		answers(t, "P2.11: Write, "+what, a.Write(off), deadOf(good))
		answers(t, "P2.11: Write of empty parts, "+what, a.Write(off, "", ""), deadOf(good))
		if same, e := a.Equal(40, off, 0); same != good || e != deadOf(good) {
			t.Errorf("P2.10: Equal, %s: %v, error %d", what, same, e)
		}
		if s, e := a.Read(off, 0); s != "" || e != deadOf(good) {
			t.Errorf("P2.10: Read, %s: %q, error %d", what, s, e)
		}
	}
	kept(t, "P2.12: calls about no bytes", a, before)
	for _, off := range []int{0, 15, 16, 17} {
		answers(t, "P2.11: Write in an arena without blocks", begin(t, 100).Write(off), api.ErrDead)
	}
}

// TestFill: P2.10, P2.12.
func TestFill(t *testing.T) {
	for _, c := range [][2]int{{16, 16}, {16, 1}, {31, 1}, {32, 32}, {40, 9}, {80, 48}, {127, 1}, {100, 0}, {128, 0}} {
		for _, b := range []byte{0, 0x7F, 0xFF} {
			a, _ := spans(t)
			want := look(t, a)
			lay(&want, c[0], strings.Repeat(string([]byte{b}), c[1]))
			answers(t, "P2.10: Fill", a.Fill(c[0], c[1], b), api.OK)
			kept(t, fmt.Sprintf("P2.10, P2.12: Fill(%d, %d, %d), beside its span", c[0], c[1], b), a, want)
		}
	}
}

// lay: what the picture shows when these bytes are laid there.
func lay(p *picture, off int, s string) {
	for i, b := range p.Blocks {
		if b[0] <= off && off < b[0]+b[1] {
			l := []byte(p.Bytes[i])
			copy(l[off-b[0]:], s)
			p.Bytes[i] = string(l)
		}
	}
}

// TestCopy: P2.10: spans that overlap either way, in one block, and in two.
func TestCopy(t *testing.T) {
	for _, c := range []struct{ dst, src, n int }{
		{17, 16, 15}, {16, 17, 15}, {85, 80, 20}, {80, 85, 20}, {80, 80, 48}, {81, 80, 47}, {80, 81, 47}, // overlapping
		{80, 100, 10}, {100, 80, 10}, {80, 88, 8}, {88, 80, 8}, // in one block, apart
		{16, 32, 16}, {32, 16, 16}, {48, 16, 16}, {96, 32, 32}, {32, 96, 32}, {31, 80, 1}, {80, 31, 1}, // in two
		{17, 90, 0}, {128, 64, 0},
	} {
		a, _ := spans(t)
		want := look(t, a)
		was, e := a.Read(c.src, c.n)
		answers(t, "P2.10: Read", e, api.OK)
		lay(&want, c.dst, was)
		answers(t, fmt.Sprintf("P2.10: Copy(%v)", c), a.Copy(c.dst, c.src, c.n), api.OK)
		kept(t, fmt.Sprintf("P2.10, P2.12: Copy(%v), beside its span", c), a, want)
	}
}

// TestEqual: P2.10: each byte counts, the first and the last too; those beside the spans don't.
func TestEqual(t *testing.T) {
	a := begin(t, 4096)
	takes(t, a, []int{48, 48}, []int{16, 64})
	answers(t, "P2.11: Write", a.Write(16, "xabcdefghy"), api.OK)
	answers(t, "P2.11: Write", a.Write(70, "vabcdefghw"), api.OK)
	is := func(x, y, n int, want bool) {
		t.Helper()
		for _, c := range [][2]int{{x, y}, {y, x}} {
			if same, e := a.Equal(c[0], c[1], n); same != want || e != api.OK {
				t.Fatalf("P2.10: Equal(%d, %d, %d) = %v, error %d, want %v", c[0], c[1], n, same, e, want)
			}
		}
	}
	is(17, 71, 8, true)
	is(17, 71, 9, false)
	is(16, 70, 9, false)
	is(17, 72, 8, false)
	is(17, 17, 40, true)
	is(30, 100, 12, true)
	for i := range 8 {
		answers(t, "P2.9: Store", a.Store(17+i, 1, 0x80), api.OK)
		is(17, 71, 8, false)
		is(17, 71, i, true)
		answers(t, "P2.10: Copy", a.Copy(17+i, 71+i, 1), api.OK)
		is(17, 71, 8, true)
	}
}

// TestWrite: P2.11: part behind part, without gaps, whole or not at all.
func TestWrite(t *testing.T) {
	for _, c := range []struct {
		off   int
		parts []string
	}{
		{16, []string{"0123456789abcdef"}}, {18, []string{"ab", "", "c"}}, {32, []string{"", "\x00\xFF", "", "é", ""}},
		{80, strings.Split(strings.Repeat("z", 48), "")}, {127, []string{"", "!"}}, {125, []string{"a", "b", "c"}}, {90, nil},
	} {
		a, _ := spans(t)
		want := look(t, a)
		lay(&want, c.off, strings.Join(c.parts, ""))
		parts := append(slices.Clone(c.parts), "room")[:len(c.parts)]
		answers(t, "P2.11: Write", a.Write(c.off, parts...), api.OK)
		kept(t, fmt.Sprintf("P2.11, P2.12: Write(%d, %q)", c.off, c.parts), a, want)
		if !slices.Equal(parts, c.parts) || parts[:len(parts)+1][len(parts)] != "room" {
			t.Errorf("W3: Write has changed its parts: %q", parts)
		}
	}
}

// TestWriteTooMuch: P2.11: the sum counts, also where it is above every block, or would wrap round.
func TestWriteTooMuch(t *testing.T) {
	a, _ := spans(t)
	before := look(t, a)
	for _, c := range []struct {
		off   int
		parts []string
	}{
		{16, []string{"0123456789abcdef", "x"}}, {17, []string{"0123456789abcdef"}}, {30, []string{"ab", "c"}}, {30, []string{"", "abc", ""}},
		{120, []string{"1234", "5678", "9"}}, {64, []string{"a"}}, {128, []string{"a"}}, {15, []string{"ab"}}, {160, []string{"a"}}, {0, []string{"a"}},
	} {
		answers(t, fmt.Sprintf("P2.11: Write(%d, %q)", c.off, c.parts), a.Write(c.off, c.parts...), api.ErrDead)
		kept(t, fmt.Sprintf("P2.11: Write(%d, %q)", c.off, c.parts), a, before)
	}
	long := strings.Repeat("m", 1<<20)
	for _, times := range []int{1, 2, 5000} {
		answers(t, "P2.11: Write of a long part, several times", a.Write(80, slices.Repeat([]string{long}, times)...), api.ErrDead)
	}
	kept(t, "P2.11: Write of a long part, several times", a, before)

	great := begin(t, api.MaxLimit)
	takes(t, great, []int{api.MaxBlock, 16}, []int{16, 16 + api.MaxBlock})
	answers(t, "P2.11: Write of a greatest block", great.Write(16, long[:1000], long[1000:]), api.OK)
	reads(t, great, "P2.11: Write of a greatest block", 16, long)
	answers(t, "P2.11: Write of one byte more", great.Write(16, long, "n"), api.ErrDead)
	reads(t, great, "P2.11: the block behind", 16+api.MaxBlock, strings.Repeat("\x00", 16))
}

// TestReadIsApart: what Read has answered does not change when the bytes do.
func TestReadIsApart(t *testing.T) {
	a, _ := spans(t)
	s, e := a.Read(80, 48)
	answers(t, "P2.10: Read", e, api.OK)
	answers(t, "P2.10: Fill", a.Fill(80, 48, 0), api.OK)
	if s != marks(80, 48) {
		t.Errorf("P2.10: what was read is now %q", s)
	}
}

// TestReadersAtOnce: what reads changes nothing, so many may ask at once (P2.12).
func TestReadersAtOnce(t *testing.T) {
	a, parts := spans(t)
	before := look(t, a)
	var all sync.WaitGroup
	for range 8 {
		all.Go(func() {
			for off := range 170 {
				_, e := a.Load(off, 4)
				s, e2 := a.Read(off, 4)
				same, e3 := a.Equal(off, off, 4)
				want := deadOf(isGood(parts, off, 4))
				if e != want || e2 != want || e3 != want || same != (len(s) == 4) {
					t.Errorf("P2.12: at %d: %q, %v, errors %d, %d, %d", off, s, same, e, e2, e3)
				}
			}
			if l := listed(a.Blocks()); l != fmt.Sprint(before.Blocks) || len(a.Parts()) != len(parts) || a.Live() != before.Live || a.End() != before.End {
				t.Errorf("P2.12: the blocks are %s", l)
			}
		})
	}
	all.Wait()
	kept(t, "P2.12: readers", a, before)
}
