package image_test

import (
	"bytes"
	"fmt"
	"math/rand"
	"strings"
	"testing"

	"larder/api"
	"larder/image"
)

// TestGreatWords: P19.7: each word of images, and each eight bytes that lie across two of them, is made as great as a word allows, or an edge; with the right sum and without it.
func TestGreatWords(t *testing.T) {
	met := map[api.Errno]int{}
	for _, b := range [][]byte{save(t, begin(t, 4096)), save(t, bareMap(t)), base(t).row()} {
		for at := 0; at+8 <= len(b)-8; at++ {
			if at > 260 && at%8 > 0 {
				continue
			}
			for _, v := range edges {
				c := with(b, at, v)
				met[asPlainly(t, fmt.Sprintf("%#x at %d", v, at), c)]++
				copy(c[len(c)-8:], word(v))
				met[asPlainly(t, fmt.Sprintf("%#x at %d, and as the sum", v, at), c)]++
			}
		}
	}
	for _, e := range []api.Errno{api.OK, api.ErrImage, api.ErrSum, api.ErrLimit, api.ErrParts, api.ErrBytes, api.ErrMemory, api.ErrHold, api.ErrSound} {
		if met[e] == 0 {
			t.Errorf("the test is too tame: error %d is never met", e)
		}
	}
}

// TestTwoGreatWords: P19.7: every two words of small images.
func TestTwoGreatWords(t *testing.T) {
	t.Parallel()
	great := []uint64{0, 1, 16, 64, 1 << 31, 1 << 32, 1 << 60, 1 << 61, 1 << 62, 1<<63 - 1, 1 << 63, 1<<64 - 16, 1<<64 - 1}
	for _, b := range [][]byte{save(t, begin(t, 4096)), save(t, begin(t, 4096, api.Over{Key: "abcdefgh", Hash: 7})), save(t, bareMap(t))} {
		for at := 8; at+16 <= len(b)-8; at += 8 {
			for to := at + 8; to+8 <= len(b)-8; to += 8 {
				for _, v := range great {
					for _, w := range great {
						asPlainly(t, fmt.Sprintf("%#x at %d, %#x at %d", v, at, w, to), with(with(b, at, v), to, w))
					}
				}
			}
		}
	}
}

// TestGreatParts: P19.7: parts whose sizes add up to more than a word holds, so that offsets would come round to where they were.
func TestGreatParts(t *testing.T) {
	for _, sizes := range [][]uint64{{1 << 63, 1 << 63, 64}, {1<<64 - 64, 64, 64}, {64, 1<<64 - 64, 64}, {1<<63 - 1, 1<<63 - 1, 2}, {1<<64 - 16, 16, 16}, {1<<64 - 1}, {64, 0, 0}, {api.MaxBlock, api.MaxBlock, api.MaxBlock}} {
		for _, alive := range []uint64{0, 1} {
			p := piecesOf(begin(t, api.MaxLimit))
			for _, size := range sizes {
				p.parts, p.part = p.parts+1, append(p.part, part{size, alive})
			}
			refused(t, fmt.Sprint("P19.3: parts of ", sizes), p.row(), api.ErrParts)
			p.bytes, p.live = 64, strings.Repeat("\x00", 64)
			refused(t, fmt.Sprint("P19.3: parts of ", sizes, ", 64 bytes"), p.row(), api.ErrParts)
		}
	}
}

// TestAnyBytes: P19.7: rows of bytes of which nothing is known: drawn bytes, and drawn words, with a right head and without one.
func TestAnyBytes(t *testing.T) {
	r := rand.New(rand.NewSource(7))
	for n := range 20000 {
		var b []byte
		if n%4 > 0 {
			b = append(b, "larder1\n"...)
		}
		if n%2 == 0 {
			b = append(b, make([]byte, r.Intn(200))...)
			r.Read(b[len(b)/2:])
		} else {
			for range r.Intn(24) {
				b = append(b, word(drawnWord(r))...)
			}
		}
		if len(b) >= 8 && r.Intn(9) > 0 {
			b = summed(b)
		}
		asPlainly(t, fmt.Sprintf("% x", b), b)
	}
}

// drawnWord: mostly a small number, now and then an edge.
func drawnWord(r *rand.Rand) uint64 {
	if r.Intn(6) == 0 {
		return edges[r.Intn(len(edges))]
	}
	return uint64(r.Intn(5))
}

// TestAnyPieces: P19.7: rows that are of the form, and of which else nothing is known.
func TestAnyPieces(t *testing.T) {
	r := rand.New(rand.NewSource(8))
	met := map[api.Errno]int{}
	for n := range 40000 {
		b := drawnPieces(r).row()
		met[asPlainly(t, fmt.Sprint("row ", n), b)]++
	}
	for _, e := range []api.Errno{api.OK, api.ErrSum, api.ErrLimit, api.ErrParts, api.ErrBytes, api.ErrMemory, api.ErrLong, api.ErrTwice, api.ErrHold, api.ErrSound} {
		if met[e] < 10 {
			t.Errorf("the test is too tame: error %d is met %d times", e, met[e])
		}
	}
}

// drawnPieces: with the right counts; parts are mostly of some class, and a map lies mostly where one begins.
func drawnPieces(r *rand.Rand) pieces {
	p := pieces{head: "larder1\n", limit: uint64(r.Intn(1500)), next: drawnWord(r)}
	if r.Intn(30) == 0 {
		p.limit, p.spoil = drawnWord(r), uint64(r.Intn(2))
	}
	for range r.Intn(3) {
		key := strings.Repeat("k", r.Intn(6)*r.Intn(27))
		p.overs, p.over = p.overs+1, append(p.over, over{uint64(len(key)), key, r.Uint64()})
	}
	offs, at, size := []uint64{drawnWord(r)}, uint64(api.First), 0
	for range r.Intn(5) {
		q := part{[]uint64{16, 32, 64, 64, 64, 192, 384}[r.Intn(7)], uint64(r.Intn(2))}
		if r.Intn(20) == 0 {
			q[0] = drawnWord(r)
		}
		p.parts, p.part = p.parts+1, append(p.part, q)
		offs, at, size = append(offs, at), at+q[0], size+int(q[0]*q[1])
	}
	p.live = strings.Repeat("\x00", max(0, min(size, 4096)))
	if r.Intn(20) == 0 {
		p.live += "\x00"
	}
	p.bytes = uint64(len(p.live))
	for n := range r.Intn(3) {
		p.maps, p.kept = p.maps+1, append(p.kept, kept{uint64(n + r.Intn(3)), offs[r.Intn(len(offs))], 1, 1, 1, 1, 16})
		if r.Intn(9) == 0 {
			p.kept[n][r.Intn(7)] = drawnWord(r)
		}
	}
	// A header of zeros but for its depth, -1, is a bare map's.
	if r.Intn(3) > 0 {
		p.live = strings.ReplaceAll(p.live, strings.Repeat("\x00", 64), strings.Repeat("\x00", 40)+string(word(1<<64-1))+strings.Repeat("\x00", 16))
	}
	return p
}

// TestDrawnChanges: P19.3, P19.5, P19.7: images of every kind with a few changes, drawn: bytes and words that are others, left out, laid in, doubled.
func TestDrawnChanges(t *testing.T) {
	met := map[api.Errno]int{}
	r := rand.New(rand.NewSource(19))
	list := [][]byte{base(t).row()}
	for _, sh := range shapes {
		if b := save(t, sh.build(t)); len(b) < 4000 {
			list = append(list, b)
		}
	}
	for n := range 30000 {
		b := bytes.Clone(list[r.Intn(len(list))])
		for range 1 + r.Intn(2) {
			b = changed(r, b)
		}
		if r.Intn(20) > 0 && len(b) >= 8 {
			b = summed(b)
		}
		met[asPlainly(t, fmt.Sprint("change ", n), b)]++
	}
	for _, e := range []api.Errno{api.OK, api.ErrImage, api.ErrSum, api.ErrLimit, api.ErrParts, api.ErrBytes, api.ErrHold, api.ErrSound} {
		if met[e] < 10 {
			t.Errorf("the test is too tame: error %d is met %d times", e, met[e])
		}
	}
}

// changed: the bytes with one change.
func changed(r *rand.Rand, b []byte) []byte {
	if len(b) < 32 {
		return b
	}
	at := r.Intn(len(b) - 8)
	at = min(at, r.Intn(len(b)-8)) // more often near the begin, where the counts are
	words := at / 8 * 8
	switch r.Intn(8) {
	case 0:
		b[at] ^= 1 << r.Intn(8)
	case 1:
		b[at] = byte(r.Intn(256))
	case 2:
		copy(b[at:], word(edges[r.Intn(len(edges))]))
	case 3, 4:
		copy(b[words:], word(edges[r.Intn(len(edges))]))
	case 5:
		n := r.Intn(20)
		b = append(b[:at:at], b[min(len(b), at+n):]...)
	case 6:
		b = append(b[:at:at], append(word(edges[r.Intn(len(edges))]), b[at:]...)...)
	case 7:
		b = append(b[:words:words], append(bytes.Clone(b[words:words+8]), b[words:]...)...)
	}
	return b
}

// TestGreatImages: P19.7: the greatest stores there are: as many maps as a limit allows, as many parts, one map of as many keys as fit.
func TestGreatImages(t *testing.T) {
	t.Parallel()
	maps := begin(t, api.MaxLimit)
	for maps.Live() < api.MaxLimit {
		if _, e := maps.Make(uint64(maps.Live()), 0, chapter...); e != api.OK {
			t.Fatalf("Make: error %d", e)
		}
	}
	keys := begin(t, api.MaxLimit)
	made(t, keys, 3, []int{4, 4, 4, 4, 1024})
	for n := 0; ; n++ {
		if _, e := keys.Put(1, key(4, n), "elem"); e != api.OK {
			break
		}
	}
	free := piecesOf(begin(t, api.MaxLimit))
	for range api.MaxLimit / 16 {
		free.parts, free.part = free.parts+1, append(free.part, part{16, 0})
	}
	for what, b := range map[string][]byte{"maps": save(t, maps), "keys": save(t, keys), "free parts": free.row()} {
		if !bytes.Equal(save(t, load(t, b)), b) {
			t.Errorf("P19.5: many %s: another image", what)
		}
	}
	free.parts, free.part = free.parts+1, append(free.part, part{16, 0})
	refused(t, "P19.3: a part more than there can be", free.row(), api.ErrParts)
}

// TestGreatNonsense: P19.7: long rows of which each count is as great as the bytes allow.
func TestGreatNonsense(t *testing.T) {
	t.Parallel()
	const many = 100000
	p := piecesOf(begin(t, 4096))
	p.overs, p.over = many, make([]over, many)
	refused(t, "P19.3: many empty overrides", p.row(), api.ErrMany)
	p = piecesOf(begin(t, 4096))
	p.maps, p.kept = many, make([]kept, many)
	refused(t, "P19.3: many maps of zeros", p.row(), api.ErrHold)
	p = piecesOf(begin(t, 4096))
	p.parts, p.part = many, make([]part, many)
	refused(t, "P19.3: many parts of zeros", p.row(), api.ErrParts)
	p = piecesOf(begin(t, 4096))
	p.live = strings.Repeat("\xff", 8*many)
	p.bytes = uint64(len(p.live))
	refused(t, "P19.3: many bytes", p.row(), api.ErrBytes)
	for _, c := range []byte{0, 1, 0x80, 0xFF} {
		b := append([]byte("larder1\n"), bytes.Repeat([]byte{c}, 8*many)...)
		if s, e := image.Load(b); s != nil || e != api.ErrImage {
			t.Errorf("P19.3: all bytes %d: error %d", c, e)
		}
	}
}
