package journal_test

import (
	"bytes"
	"fmt"
	"strings"
	"testing"

	"larder/api"
	"larder/image"
	"larder/journal"
)

// behind: records that are good behind any head.
var behind = []piece{recordPiece(words(7, 1)), recordPiece(words(10, 0))}

// refusedHead: a head by which the log is refused, alone and with records behind it.
func refusedHead(t *testing.T, what string, head piece, want api.Errno) {
	t.Helper()
	refused(t, what, laid(head), want)
	refused(t, what+", with records behind it", laid(head, behind...), want)
}

// TestHeadLetters: P20.5: another first byte, whichever, with a right sum.
func TestHeadLetters(t *testing.T) {
	for at := range 8 {
		for c := range 256 {
			h := headPiece(0, newBody(4096))
			b := []byte(h.first)
			if int(b[at]) == c {
				continue
			}
			b[at] = byte(c)
			h.first = string(b)
			refusedHead(t, fmt.Sprintf("the first byte %d is %d", at, c), h, api.ErrLog)
		}
	}
	for _, first := range []string{"larder1\n", "larder3\n", "larder2 ", "LARDER2\n", "larder2\r", "\x00\x00\x00\x00\x00\x00\x00\x00"} {
		h := headPiece(0, newBody(4096))
		h.first = first + words(0)
		refusedHead(t, fmt.Sprintf("the first eight bytes %q", first), h, api.ErrLog)
	}
}

// TestHeadKinds: P20.5: a kind that is neither 0 nor 1, with a right sum: with a body of either kind.
func TestHeadKinds(t *testing.T) {
	b, _ := image.Save(begin(t, 4096).Store())
	for _, kind := range edges {
		if kind == 0 || kind == 1 {
			continue
		}
		refusedHead(t, fmt.Sprintf("the kind %#x", kind), headPiece(kind, newBody(4096)), api.ErrLog)
		refusedHead(t, fmt.Sprintf("the kind %#x, an image", kind), headPiece(kind, string(b)), api.ErrLog)
	}
	for shift := range 64 {
		for bit := range uint64(2) {
			if kind := bit | 1<<shift; kind > 1 {
				refusedHead(t, fmt.Sprintf("the kind %#x", kind), headPiece(kind, newBody(4096)), api.ErrLog)
			}
		}
	}
	refusedHead(t, "an image with the kind 0", headPiece(0, string(b)), api.ErrLog)
	refusedHead(t, "a new store with the kind 1", headPiece(1, newBody(4096)), api.ErrLog)
	recovered(t, "kind 0", laid(headPiece(0, newBody(4096))), 0)
	recovered(t, "kind 1", laid(headPiece(1, string(b))), 0)
}

// TestHeadNotWhole: P20.5: a head that is cut off anywhere, of both kinds; a body that goes beyond the log's end.
func TestHeadNotWhole(t *testing.T) {
	j := done(t, 4096, puts(3)...)
	j.Mark()
	for _, log := range []string{laid(headPiece(0, newBody(4096))), laid(headPiece(0, newBody(4096, longOvers()...))), string(j.Log())} {
		for cut := range len(log) {
			refused(t, fmt.Sprintf("cut off at %d of %d", cut, len(log)), log[:cut], api.ErrLog)
		}
	}
	refused(t, "nil", "", api.ErrLog)
	if j, n, e := journal.Recover(nil); j != nil || n != 0 || e != api.ErrLog {
		t.Errorf("P20.5: nil: journal %v, %d, error %d", j != nil, n, e)
	}
	for _, kind := range []uint64{0, 1} {
		for _, count := range edges {
			h := headPiece(kind, newBody(4096))
			if h.count == count {
				continue
			}
			h.count = count
			refusedHead(t, fmt.Sprintf("kind %d, a body of %#x bytes", kind, count), h, api.ErrLog)
		}
	}
	// The body is said to be longer: it takes in its own sum, and a right one stands behind that.
	for more := range 40 {
		body := newBody(4096) + strings.Repeat("\x00", more)
		if more > 0 {
			refusedHead(t, fmt.Sprint("a body that is ", more, " bytes longer"), headPiece(0, body), api.ErrLog)
		}
	}
}

// TestHeadSums: P20.5: a wrong sum, of both kinds; it goes ahead of all that the body tells.
func TestHeadSums(t *testing.T) {
	b, _ := image.Save(begin(t, 4096).Store())
	for what, h := range map[string]piece{
		"a new store":      headPiece(0, newBody(4096)),
		"a wrong limit":    headPiece(0, newBody(-1)),
		"an empty key":     headPiece(0, newBody(5, api.Over{})),
		"an image":         headPiece(1, string(b)),
		"an image's sum":   headPiece(1, imageRow("larder1\n", 4096, "", 1, "", "", "", 1)),
		"an image's limit": headPiece(1, imageRow("larder1\n", 1<<63, "", 1, "", "", "", 0)),
	} {
		for shift := range 64 {
			h.spoil = 1 << shift
			refusedHead(t, fmt.Sprintf("%s, the sum is %#x more", what, h.spoil), h, api.ErrLog)
		}
	}
	// The sum of the same bytes with another seed.
	for _, seed := range []uint64{0, 19, 21, 28} {
		row, _ := headPiece(0, newBody(4096)).row(seed)
		refused(t, fmt.Sprint("a sum with the seed ", seed), row, api.ErrLog)
	}
}

// TestNewBodies: P20.5: bodies of kind 0 with a right sum that are not of their form: each that is too short, or too long; and counts that say too much or too little. That goes ahead of what a new store refuses.
func TestNewBodies(t *testing.T) {
	two := []api.Over{{Key: "a", Hash: 5}, {Key: "bcd", Hash: 1 << 63}}
	for what, body := range map[string]string{
		"none":                       newBody(4096),
		"two":                        newBody(4096, two...),
		"two, a wrong limit":         newBody(-1, two...),
		"two, an empty key":          newBody(4096, two[0], api.Over{}),
		"two of one key":             newBody(4096, two[0], two[0]),
		"one too many":               newBody(4096, append(longOvers(), api.Over{Key: "one more"})...),
		"one too many, all of a key": newBody(4096, make([]api.Over, 65)...),
	} {
		for cut := range len(body) {
			refusedHead(t, fmt.Sprintf("overrides: %s: %d of %d bytes", what, cut, len(body)), headPiece(0, body[:cut]), api.ErrLog)
		}
		for more := 1; more < 50; more++ {
			refusedHead(t, fmt.Sprintf("overrides: %s: %d bytes more", what, more), headPiece(0, body+strings.Repeat("\x00", more)), api.ErrLog)
		}
	}
	body := newBody(4096, two...)
	for _, at := range []int{8, 16, 33} { // how many overrides, and the lengths of their keys
		for _, v := range edges {
			b := []byte(body)
			copy(b[at:], words(v))
			if string(b) == body {
				continue
			}
			refusedHead(t, fmt.Sprintf("the count at %d is %#x", at, v), headPiece(0, string(b)), api.ErrLog)
		}
	}
}

// TestNewErrors: P20.5: of kind 0, with a right sum and a body of its form: the errors of a new store, in its order.
func TestNewErrors(t *testing.T) {
	a := api.Over{Key: "a", Hash: 1}
	long := api.Over{Key: strings.Repeat("k", api.MaxKey+1)}
	for _, limit := range []uint64{api.MaxLimit + 1, 1 << 31, 1 << 32, 1 << 40, 1<<63 - 1, 1 << 63, 1<<64 - api.MaxLimit, 1<<64 - 1} {
		refusedHead(t, fmt.Sprintf("the limit %#x", limit), headPiece(0, words(limit, 0)), api.ErrLimit)
		refusedHead(t, fmt.Sprintf("the limit %#x, an empty key", limit), headPiece(0, newBody(int(limit), api.Over{})), api.ErrLimit)
		refusedHead(t, fmt.Sprintf("the limit %#x, too many", limit), headPiece(0, newBody(int(limit), make([]api.Over, 65)...)), api.ErrLimit)
	}
	for _, c := range []struct {
		what string
		over []api.Over
		want api.Errno
	}{
		{"65 overrides", append(longOvers(), a), api.ErrMany},
		{"65 empty keys", make([]api.Over, 65), api.ErrMany},
		{"1000 overrides", make([]api.Over, 1000), api.ErrMany},
		{"an empty key", []api.Over{{}}, api.ErrLong},
		{"a key of 129 bytes", []api.Over{a, long}, api.ErrLong},
		{"a key of 100000 bytes", []api.Over{{Key: strings.Repeat("k", 100000)}}, api.ErrLong},
		{"a key twice", []api.Over{a, {Key: "b"}, a}, api.ErrTwice},
		{"a key twice, then an empty one", []api.Over{a, a, {}}, api.ErrTwice},
		{"an empty key, then one twice", []api.Over{a, {}, a}, api.ErrLong},
	} {
		refusedHead(t, c.what, headPiece(0, newBody(4096, c.over...)), c.want)
	}
}

// imageRow: an image of these rows, with the right counts for what is given (an override of two bytes' key has 18 bytes, a map 56, a part 16); its sum is so much more than it should be.
func imageRow(first string, limit uint64, over string, next uint64, maps, parts, live string, spoil uint64) string {
	b := first + words(limit, uint64(len(over)/18)) + over + words(next, uint64(len(maps)/56)) + maps + words(uint64(len(parts)/16)) + parts + counted(live)
	return b + words(plainMix(19, b)+spoil)
}

// TestImageErrors: P20.5: of kind 1, with a right sum of the head: a body that is no image is ErrLog; else the errors of loading it.
func TestImageErrors(t *testing.T) {
	const first = "larder1\n"
	bare := words(0, 7, 0, 0, 0, 1<<64-1, 0, 0) // a bare map's header: its depth is -1
	over, one := counted("ab")+words(5), words(1, 16, 1, 1, 1, 1, 16)
	fine := imageRow(first, 4096, over, 2, one, words(64, 1), bare, 0)
	recovered(t, "an image with a map", laid(headPiece(1, fine), behind...), 2)
	many := ""
	for n := range 65 {
		many += words(2) + key(2, n) + words(5)
	}
	for _, c := range []struct {
		what, body string
		want       api.Errno
	}{
		{"no bytes", "", api.ErrLog},
		{"no image", "no image", api.ErrLog},
		{"a new store's body", newBody(4096), api.ErrLog},
		{"an image with another head", imageRow("larder2\n", 4096, over, 2, one, words(64, 1), bare, 0), api.ErrLog},
		{"a part's second word is 2", imageRow(first, 4096, over, 2, one, words(64, 2), bare, 0), api.ErrLog},
		{"a log", laid(headPiece(1, fine)), api.ErrLog},
		{"two images", fine + fine, api.ErrLog},
		{"an image whose sum is wrong", imageRow(first, 4096, over, 2, one, words(64, 1), bare, 1), api.ErrSum},
		{"an image whose sum and limit are wrong", imageRow(first, 1<<63, over, 2, one, words(64, 1), bare, 1<<63), api.ErrSum},
		{"the limit -1", imageRow(first, 1<<64-1, over, 2, one, words(64, 1), bare, 0), api.ErrLimit},
		{"a great limit", imageRow(first, api.MaxLimit+1, "", 1, "", "", "", 0), api.ErrLimit},
		{"a limit below a part", imageRow(first, 63, over, 2, one, words(64, 1), bare, 0), api.ErrParts},
		{"a limit below what is live", imageRow(first, 95, over, 2, one, words(64, 1, 32, 1), bare+bare[:32], 0), api.ErrMemory},
		{"a part of 65 bytes", imageRow(first, 4096, over, 2, one, words(65, 1), bare+"\x00", 0), api.ErrParts},
		{"bytes that are too few", imageRow(first, 4096, over, 2, one, words(64, 1), bare[1:], 0), api.ErrBytes},
		{"too many overrides", imageRow(first, 4096, many, 2, one, words(64, 1), bare, 0), api.ErrMany},
		{"an override twice", imageRow(first, 4096, over+over, 2, one, words(64, 1), bare, 0), api.ErrTwice},
		{"the next handle 0", imageRow(first, 4096, over, 0, one, words(64, 1), bare, 0), api.ErrHold},
		{"the next handle 1", imageRow(first, 4096, over, 1, one, words(64, 1), bare, 0), api.ErrHold},
		{"no descriptor", imageRow(first, 4096, over, 2, words(1, 16, 1, 1, 1, 1, 17), words(64, 1), bare, 0), api.ErrHold},
		{"a header with a key more", imageRow(first, 4096, over, 2, one, words(64, 1), words(1)+bare[8:], 0), api.ErrSound},
		{"a block that no map has", imageRow(first, 4096, over, 2, "", words(64, 1), bare, 0), api.ErrSound},
	} {
		refusedHead(t, c.what, headPiece(1, c.body), c.want)
		want := c.want
		if want == api.ErrLog {
			want = api.ErrImage
		}
		if _, e := image.Load([]byte(c.body)); e != want {
			t.Errorf("%s: Load answers error %d, want %d", c.what, e, want)
		}
		h := headPiece(1, c.body)
		h.spoil = 1
		refusedHead(t, c.what+", and the head's sum is wrong", h, api.ErrLog)
	}
	for cut := range len(fine) {
		refusedHead(t, fmt.Sprintf("an image cut off at %d", cut), headPiece(1, fine[:cut]), api.ErrLog)
	}
	for more := 1; more < 20; more++ {
		refusedHead(t, fmt.Sprintf("%d bytes behind an image", more), headPiece(1, fine+string(bytes.Repeat([]byte{7}, more))), api.ErrLog)
	}
}

// TestEmptyOverride: P20.5: an image with an override's empty key is refused as loading it is.
func TestEmptyOverride(t *testing.T) {
	b := "larder1\n" + words(4096, 1, 0, 5, 1, 0, 0, 0)
	refusedHead(t, "an image with an empty key", headPiece(1, b+words(plainMix(19, b))), api.ErrLong)
}
