package journal_test

import (
	"fmt"
	"math"
	"math/rand"
	"strings"
	"testing"

	"larder/api"
	"larder/image"
)

// TestGreatWords: P20.9, P20.5: each eight bytes of a head's body and of each record's are made as great as a word allows, or an edge; the lengths and the kind too; all sums are right.
func TestGreatWords(t *testing.T) {
	b, _ := image.Save(done(t, 4096, puts(2)...).Store())
	errors := met{}
	for _, head := range []piece{headPiece(0, newBody(4096, api.Over{Key: "abc", Hash: 7})), headPiece(1, string(b))} {
		for at := -2; at+8 <= len(head.body); at++ {
			for _, v := range edges {
				h := head
				switch at {
				case -2:
					h.first = h.first[:8] + words(v)
				case -1:
					h.count = v
				default:
					h.body = h.body[:at] + words(v) + h.body[at+8:]
				}
				_, e := asPlainly(t, fmt.Sprintf("%#x at %d of a head's body", v, at), laid(h, behind...))
				errors[fmt.Sprint(e)]++
			}
		}
		for i, body := range goodBodies {
			for at := -1; at+8 <= len(body); at++ {
				for _, v := range edges {
					p := recordPiece(body)
					if at < 0 {
						p.count = v
					} else {
						p.body = p.body[:at] + words(v) + p.body[at+8:]
					}
					asPlainly(t, fmt.Sprintf("%#x at %d of the body %d", v, at, i), laid(head, append([]piece{p}, behind...)...))
				}
			}
		}
	}
	for _, e := range []api.Errno{api.OK, api.ErrLog, api.ErrLimit, api.ErrSum} {
		if errors[fmt.Sprint(e)] == 0 {
			t.Errorf("the test is too tame: error %d is never met", e)
		}
	}
}

// drawnWord: mostly a small number, now and then an edge.
func drawnWord(r *rand.Rand) uint64 {
	if r.Intn(8) == 0 {
		return edges[r.Intn(len(edges))]
	}
	return uint64(r.Intn(12))
}

// drawnBody: a row of words and bytes, mostly with a changing Op ahead.
func drawnBody(r *rand.Rand) string {
	s := ""
	if r.Intn(10) > 0 {
		s = words(uint64(changing[r.Intn(len(changing))]))
	}
	for range r.Intn(5) {
		switch r.Intn(4) {
		case 0:
			s += counted(key(r.Intn(3), r.Intn(9)))
		case 1:
			s += key(r.Intn(3), r.Intn(9))
		default:
			s += words(drawnWord(r))
		}
	}
	return s
}

// drawnHead: mostly one that is taken.
func drawnHead(r *rand.Rand, img string) piece {
	h := headPiece(0, newBody(r.Intn(5000), overs(hashes["few hashes"])[:r.Intn(3)]...))
	switch r.Intn(14) {
	case 13:
		h = headPiece(0, words(edges[r.Intn(len(edges))], 0))
	case 12:
		h = headPiece(0, newBody(4096, api.Over{Key: key([]int{0, 1, 1, 128, 129}[r.Intn(5)], 1)}, api.Over{Key: key(1+r.Intn(2), 1)}))
	case 0:
		h = headPiece(drawnWord(r), h.body)
	case 1:
		h = headPiece(0, words(drawnWord(r), drawnWord(r))+drawnBody(r))
	case 2:
		h = headPiece(1, drawnBody(r))
	case 3:
		h.count = drawnWord(r)
	case 4, 5:
		h = headPiece(1, img)
	case 6:
		h.spoil = uint64(r.Intn(2))
	}
	return h
}

// TestAnyPieces: P20.9, P20.5: logs whose sums are right, and of which else nothing is known.
func TestAnyPieces(t *testing.T) {
	r := rand.New(rand.NewSource(20))
	b, _ := image.Save(done(t, 4096, puts(2)...).Store())
	m := met{}
	for n := range 20000 {
		head, records := drawnHead(r, string(b)), []piece(nil)
		for range r.Intn(5) {
			p := recordPiece(drawnBody(r))
			if r.Intn(2) == 0 {
				p = recordPiece(goodBodies[r.Intn(len(goodBodies))])
			}
			if r.Intn(15) == 0 {
				p.count = drawnWord(r)
			}
			if r.Intn(15) == 0 {
				p.spoil = drawnWord(r)
			}
			records = append(records, p)
		}
		log := laid(head, records...)
		if r.Intn(5) == 0 {
			log = log[:r.Intn(len(log)+1)]
		}
		good, e := asPlainly(t, fmt.Sprint("log ", n), log)
		m[fmt.Sprint(good, " records, error ", e)]++
	}
	for _, what := range []string{"0 records, error 0", "1 records, error 0", "2 records, error 0", "3 records, error 0", "4 records, error 0", "0 records, error 200", "0 records, error 20", "0 records, error 41", "0 records, error 42"} {
		if m[what] < 20 {
			t.Errorf("the test is too tame: %s: %d times", what, m[what])
		}
	}
}

// TestAnyBytes: P20.9: rows of bytes of which nothing is known: drawn bytes, and drawn words, with the right first ones and without them.
func TestAnyBytes(t *testing.T) {
	r := rand.New(rand.NewSource(9))
	for n := range 20000 {
		log := ""
		if n%4 > 0 {
			log = "larder2\n"
		}
		if n%3 == 0 {
			b := make([]byte, r.Intn(200))
			r.Read(b)
			log += string(b)
		} else {
			for range r.Intn(24) {
				log += words(drawnWord(r))
			}
		}
		if r.Intn(2) == 0 {
			log += words(plainMix(20, log))
		}
		asPlainly(t, fmt.Sprintf("% x", log), log)
	}
	for _, c := range []string{"\x00", "\xff", "larder2\n", words(1), words(1 << 63)} {
		for n := range 200 {
			asPlainly(t, fmt.Sprintf("%d times %q", n, c), strings.Repeat(c, n))
			asPlainly(t, fmt.Sprintf("the first bytes and %d times %q", n, c), "larder2\n"+strings.Repeat(c, n))
		}
	}
}

// TestDrawnChanges: P20.5, P20.9: logs that Log told, with a few changes of bytes, drawn, whatever the sums are then.
func TestDrawnChanges(t *testing.T) {
	r := rand.New(rand.NewSource(21))
	list := stories(t)
	for n := range 15000 {
		b := []byte(list[r.Intn(len(list))].log)
		for range 1 + r.Intn(3) {
			at := r.Intn(len(b))
			switch r.Intn(5) {
			case 0:
				b[at] ^= 1 << r.Intn(8)
			case 1:
				copy(b[at:], words(edges[r.Intn(len(edges))]))
			case 2:
				b = append(b[:at:at], b[min(len(b), at+r.Intn(20)):]...)
			case 3:
				b = append(b[:at:at], append([]byte(words(drawnWord(r))), b[at:]...)...)
			case 4:
				b = append(b[:at+1:at+1], b[at/2:]...)
			}
		}
		asPlainly(t, fmt.Sprint("change ", n), string(b))
	}
}

// TestAnyCommands: P20.9: commands of which nothing is known, all fields as great as they can be, on journals of every kind: the answers are Play's, the logs those of the words; Mark, Log and Store in between.
func TestAnyCommands(t *testing.T) {
	r := rand.New(rand.NewSource(22))
	number := func() int { return int(edges[r.Intn(len(edges))]) }
	for _, limit := range []int{0, 63, 300, 5000, api.MaxLimit} {
		j, p := begin(t, limit), plainBegin(t, limit)
		for range 1500 {
			c := api.Cmd{Op: r.Intn(17) - 1, H: number(), N: number(), U: edges[r.Intn(len(edges))], V: edges[r.Intn(len(edges))], Key: key(r.Intn(4)*r.Intn(99), r.Intn(9)), Elem: key(r.Intn(4)*r.Intn(99), r.Intn(9))}
			for range r.Intn(7) {
				c.Fields, c.Hs = append(c.Fields, number()), append(c.Hs, number())
			}
			switch r.Intn(9) {
			case 0:
				c.Op = number()
			case 1:
				c.Fields, c.N = plain, r.Intn(20)
			case 2, 3, 4:
				c.H, c.Key, c.Elem = 1+r.Intn(9), key(1, r.Intn(30)), "x"
			}
			if a, b := j.Do(c), p.do(c); a != b {
				t.Fatalf("P20.2: limit %d: %+v: %+v, want %+v", limit, c, a, b)
			}
			if r.Intn(60) == 0 {
				if e, f := j.Mark(), p.mark(); e != f {
					t.Fatalf("P20.3: limit %d: error %d, want %d", limit, e, f)
				}
			}
			if r.Intn(50) == 0 {
				wantLog(t, fmt.Sprint("P20.2: limit ", limit), j, p.log())
				asPlainly(t, fmt.Sprint("limit ", limit), p.log())
			}
		}
		wantLog(t, fmt.Sprint("P20.2: limit ", limit), j, p.log())
	}
}

// TestGreatNext: P20.5, P20.9: behind an image whose next handle is as great as one may be handles go on; a mark behind that is not taken any more, as its image is not.
func TestGreatNext(t *testing.T) {
	j := recovered(t, "the greatest next handle", laid(headPiece(1, imageRow("larder1\n", 4096, "", 1<<62, "", "", "", 0))), 0)
	if a := j.Do(api.Cmd{Op: api.OpClone, H: math.MaxInt}); a.Err != api.ErrHandle {
		t.Errorf("P20.2: %+v", a)
	}
	if a := j.Do(api.Cmd{Op: api.OpMake, Fields: plain}); a != (api.Answer{Op: api.OpMake, N: 1 << 62}) {
		t.Errorf("P20.2: %+v", a)
	}
	back(t, "the greatest next handle", j)
	if e := j.Mark(); e != api.OK {
		t.Errorf("P20.3: error %d", e)
	}
	refused(t, "a next handle above 2^62", string(j.Log()), api.ErrHold)
}

// TestManyRecords: P20.9: logs of some hundred thousand bytes, of which each record is as short as it can be, or one is as long as they can be together.
func TestManyRecords(t *testing.T) {
	head := headPiece(0, newBody(4096))
	var records []piece
	for range 20000 {
		records = append(records, recordPiece(words(10, 0)))
	}
	var log strings.Builder
	row, sum := head.row(20)
	log.WriteString(row)
	for _, p := range records {
		row, sum = p.row(sum)
		log.WriteString(row)
	}
	recovered(t, "many records", log.String(), len(records))
	recovered(t, "a long list", laid(head, recordPiece(words(10, 100000)+words(make([]uint64, 100000)...))), 1)
	recoveredTo(t, "a long list that is short of one", laid(head, recordPiece(words(10, 100001)+words(make([]uint64, 100000)...))), 0, laid(head))
	refused(t, "very many overrides", laid(headPiece(0, words(4096, 50000)+words(make([]uint64, 100000)...))), api.ErrMany)
	refused(t, "very many overrides, short of one", laid(headPiece(0, words(4096, 50001)+words(make([]uint64, 100000)...))), api.ErrLog)
}
