package image_test

import (
	"bytes"
	"fmt"
	"testing"

	"larder/api"
	"larder/image"
)

// TestSpoiltByte: P19.6: each byte of an image, changed to every other, or in a long one to some others, is told: by ErrImage or ErrSum.
func TestSpoiltByte(t *testing.T) {
	for _, sh := range shapes {
		t.Run(sh.name, func(t *testing.T) {
			t.Parallel()
			b := save(t, sh.build(t))
			step := 1
			if len(b) > 600 {
				step = 40 + len(b)/40
			}
			spoilt := map[api.Errno]int{}
			for i, was := range b {
				for by := 1; by < 256; by += step {
					b[i] = was ^ byte(by)
					s, e := image.Load(b)
					if s != nil || e != api.ErrImage && e != api.ErrSum {
						t.Fatalf("P19.6: byte %d changed from %d to %d: store %v, error %d", i, was, b[i], s != nil, e)
					}
					if want := spoiltWhere(b, i); want != 0 && e != want {
						t.Fatalf("P19.3: byte %d changed from %d to %d: error %d, want %d", i, was, b[i], e, want)
					}
					spoilt[e]++
				}
				b[i] = was
			}
			if spoilt[api.ErrImage] == 0 || spoilt[api.ErrSum] == 0 {
				t.Errorf("the test is too tame: %v", spoilt)
			}
		})
	}
}

// spoiltWhere: the error of an image that is spoilt at that place, where it is plain: in the head, in the limit, in the sum.
func spoiltWhere(b []byte, i int) api.Errno {
	switch {
	case i < 8:
		return api.ErrImage
	case i < 16, i >= len(b)-8:
		return api.ErrSum
	}
	return 0
}

// TestCutOff: P19.6: an image that was cut off anywhere is refused by ErrImage; in spare memory in which the rest of it still lies, too.
func TestCutOff(t *testing.T) {
	for _, sh := range shapes {
		b := save(t, sh.build(t))
		for n := range b {
			refused(t, fmt.Sprintf("P19.6: %s, cut off behind %d bytes", sh.name, n), b[:n], api.ErrImage)
			refused(t, fmt.Sprintf("P19.6: %s, cut off behind %d bytes", sh.name, n), b[:n:n], api.ErrImage)
		}
		for n := range min(len(b), 70) {
			refused(t, fmt.Sprintf("P19.6: %s, without its last %d bytes", sh.name, n+1), b[:len(b)-n-1], api.ErrImage)
			refused(t, fmt.Sprintf("P19.6: %s, without its first %d bytes", sh.name, n+1), b[n+1:], api.ErrImage)
		}
	}
}

// TestBytesBehind: P19.6: bytes behind an image, few and many, zeros and others, the image itself, and those that make the last word the sum again.
func TestBytesBehind(t *testing.T) {
	for _, sh := range shapes {
		b := save(t, sh.build(t))
		for n := 1; n < 40; n++ {
			for _, c := range []byte{0, 1, 255} {
				refused(t, fmt.Sprintf("P19.6: %s, %d bytes behind it", sh.name, n), append(bytes.Clone(b), bytes.Repeat([]byte{c}, n)...), api.ErrImage)
			}
		}
		refused(t, "P19.6: "+sh.name+" twice", append(bytes.Clone(b), b...), api.ErrImage)
		refused(t, "P19.6: "+sh.name+", its sum behind it", append(bytes.Clone(b), word(plainSum(b))...), api.ErrImage)
		refused(t, "P19.6: "+sh.name+", a byte ahead of it", append([]byte{0}, b...), api.ErrImage)
	}
}

// TestSpoiltWord: U9: words of a map's header that the audit looks at, spoilt, with the right sum: ErrSound.
func TestSpoiltWord(t *testing.T) {
	p := base(t)
	for _, at := range []int{0, 16, 24, 32, 40, 48, 56} {
		for bit := range 64 {
			q := p.clone()
			q.change(at+bit/8, 1<<(bit%8))
			e := asPlainly(t, fmt.Sprintf("bit %d of the header's word at %d", bit, at), q.row())
			// Births and epochs may be others, as long as they are at most 2^62.
			if e != api.ErrSound && !(e == api.OK && (at == 16 || at == 24)) {
				t.Errorf("U9: bit %d of the header's word at %d is another: error %d", bit, at, e)
			}
		}
	}
}
