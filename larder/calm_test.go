package larder_test

import (
	"math"
	"math/rand"
	"strings"
	"testing"

	"larder/api"
	"larder/larder"
	"larder/script"
)

// spoil: some bytes of it are others, or missing, or stand twice.
func spoil(r *rand.Rand, s string) string {
	b := []byte(s)
	for range 1 + r.Intn(4) {
		if len(b) == 0 {
			return "\x00"
		}
		at := r.Intn(len(b))
		switch r.Intn(7) {
		default: // a digit is another one, so that a text may be right still
			if b[at] >= '0' && b[at] <= '9' {
				b[at] = byte('0' + r.Intn(10))
			}
		case 0:
			b[at] = byte(r.Intn(256))
		case 1:
			b[at] = " \n\t#-'0x19afz"[r.Intn(13)]
		case 2:
			b = append(b[:at:at], b[min(len(b), at+1+r.Intn(9)):]...)
		case 3:
			b = append(b[:at:at], b[max(0, at-r.Intn(30)):]...)
		}
	}
	return string(b)
}

// calmText: W1: each call ends, and none panics; where the text is refused the line and the error are those that Parse tells, and all else is zero.
func calmText(t testing.TB, in string, img []byte) api.Errno {
	t.Helper()
	_, line, refusal := script.Parse(in)
	for _, f := range textCalls {
		out, at, e := f.call(in)
		if refusal != api.OK && (out != "" || at != line || e != refusal) || e != api.OK && out != "" || refusal == api.OK && at != 0 {
			t.Fatalf("W1: %s(%.200q): %.80q, line %d, error %d; Parse tells line %d, error %d", f.name, in, out, at, e, line, refusal)
		}
	}
	out, at, e := larder.Resume(img, in)
	if refusal != api.OK && (out != "" || at != line || e != refusal) || e != api.OK && out != "" || refusal == api.OK && at != 0 {
		t.Fatalf("W1: Resume(%.200q): %.80q, line %d, error %d; Parse tells line %d, error %d", in, out, at, e, line, refusal)
	}
	return refusal
}

// TestAnyText: W1, P22.2: texts that are spoilt in all ways.
func TestAnyText(t *testing.T) {
	r := rand.New(rand.NewSource(1))
	var texts []string
	for _, s := range stories(t, 1, 40) {
		texts = append(texts, s.text())
	}
	img := saved(t, texts[0])
	met := map[api.Errno]int{}
	for range 3000 {
		met[calmText(t, spoil(r, texts[r.Intn(len(texts))]), img)]++
	}
	if met[api.OK] < 300 || met[api.ErrText] < 300 || met[api.ErrRange] < 3 {
		t.Errorf("the test is too tame: %v", met)
	}
}

// TestAnyBytes: W1, P22.4, P22.5: images and logs that are spoilt in all ways: refused, or, of a log, told as far as it is good.
func TestAnyBytes(t *testing.T) {
	r := rand.New(rand.NewSource(2))
	s := stories(t, 1, 60)[5]
	img, log := string(saved(t, s.text())), string(logged(t, s.text()))
	good := 0
	for range 2000 {
		bad := spoil(r, img)
		if out, line, e := larder.Resume([]byte(bad), "limit 0\nlive\n"); bad != img && (out != "" || line != 0 || e != api.ErrImage && e != api.ErrSum) {
			t.Fatalf("P22.4: a spoilt image: %q, line %d, error %d", out, line, e)
		}
		bad = spoil(r, log)
		n, dump, e := larder.Replay([]byte(bad))
		if e != api.OK && (n != 0 || dump != "" || e != api.ErrLog) || e == api.OK && !strings.HasPrefix(dump, "limit 2097152\n") {
			t.Fatalf("P22.5: a spoilt log: %d, %.80q, error %d", n, dump, e)
		}
		if e == api.OK {
			good++
			if again := dumped(t, printed(s.limit, s.over, changes(s.cmds)[:n]...)); again != dump {
				t.Fatalf("P22.5: a spoilt log: the dump of %d commands is %.200q, want %.200q", n, dump, again)
			}
		}
	}
	if good < 300 {
		t.Errorf("the test is too tame: %d logs are told", good)
	}
}

// TestAnyScript: W1, P22.1: commands with numbers, keys and lists of every kind.
func TestAnyScript(t *testing.T) {
	edges := []int{0, 1, 2, 3, -1, -2, 14, 15, 16, 99, 128, 129, 1024, 4096, 4097, 1 << 31, 1 << 62, math.MaxInt, math.MinInt}
	r := rand.New(rand.NewSource(3))
	edge := func() int { return edges[r.Intn(len(edges))] }
	list := func() []int {
		var l []int
		for range r.Intn(7) {
			l = append(l, edge())
		}
		return l
	}
	for range 300 {
		s := api.Script{Limit: []int{0, 100, 1000, api.MaxLimit}[r.Intn(4)], Over: overs(hashes[r.Intn(3)].of)}
		for range 60 {
			op := 1 + r.Intn(14)
			if r.Intn(10) == 0 {
				op = edge()
			}
			c := api.Cmd{Op: op, H: edge(), N: edge(), U: uint64(edge()), V: uint64(edge()), Fields: list(), Hs: list(), Key: key(r.Intn(3), r.Intn(99)), Elem: key(r.Intn(3), r.Intn(99))}
			if r.Intn(2) == 0 {
				c.Fields, c.N = plain, r.Intn(20)
			}
			s.Cmds = append(s.Cmds, c)
		}
		l, e := larder.Play(s)
		if e != api.OK || len(l) != len(s.Cmds) {
			t.Fatalf("P22.1: %d answers to %d commands, error %d", len(l), len(s.Cmds), e)
		}
		for i, a := range l {
			if a.Op != s.Cmds[i].Op || a.Err != api.OK && a != (api.Answer{Op: a.Op, Err: a.Err}) || (a.Op < 1 || a.Op > 14) != (a.Err == api.ErrText) {
				t.Fatalf("P22.1: %+v answers %+v", s.Cmds[i], a)
			}
		}
	}
}

// TestLongLists: W1: lists and keys far longer than any map has them.
func TestLongLists(t *testing.T) {
	long := strings.Repeat("k", 300000)
	s := api.Script{Limit: 4096, Cmds: []api.Cmd{{Op: api.OpMake, Fields: make([]int, 100000)}, {Op: api.OpMake, Fields: plain}, {Op: api.OpPut, H: 1, Key: long, Elem: long}, {Op: api.OpRelease, Hs: make([]int, 100000)}, {Op: api.OpPut, H: 1, Key: "a", Elem: long}, {Op: api.OpLen, H: 1}}}
	l, e := larder.Play(s)
	if e != api.OK || len(l) != len(s.Cmds) || l[2].Err != api.ErrKeyWidth || l[4].Err != api.ErrElemWidth || l[5] != (api.Answer{Op: api.OpLen}) {
		t.Errorf("P22.1: %+v, error %d", l, e)
	}
	out := ran(t, "limit 4096\nmake 0 0 1 1 1 1 16\nput 1 '"+long+" '"+long+"\nrelease"+strings.Repeat(" 1", 100000)+"\nmake 0 0"+strings.Repeat(" 1", 50000)+"\nlen 1\n")
	if want := text("make 1 | put error 61 | release error 143 | make error 30 | len 0"); out != want {
		t.Errorf("P22.2: %q, want %q", out, want)
	}
}
