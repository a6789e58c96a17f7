package script_test

import (
	"math"
	"reflect"
	"strings"
	"testing"
	"unsafe"

	"larder/api"
	"larder/script"
)

// roomy: the list with something in its spare room.
func roomy(list []int) []int {
	return append(append([]int{}, list...), 91, 92, 93)[:len(list)]
}

// TestPrintChangesNothing: neither the lists of a script nor the room behind them; nor is one of them kept.
func TestPrintChangesNothing(t *testing.T) {
	d := draws(167)
	for range 2000 {
		s := d.anyScript()
		for i := range s.Cmds {
			s.Cmds[i].Fields, s.Cmds[i].Hs = roomy(s.Cmds[i].Fields), roomy(s.Cmds[i].Hs)
		}
		s.Over = append(s.Over, api.Over{Key: "spare"})[:len(s.Over)]
		s.Cmds = append(s.Cmds, api.Cmd{Op: api.OpLive, H: 99})[:len(s.Cmds)]
		before := normal(s)
		text := script.Print(s)
		if !reflect.DeepEqual(normal(s), before) || s.Over[:len(s.Over)+1][len(s.Over)].Key != "spare" || s.Cmds[:len(s.Cmds)+1][len(s.Cmds)].H != 99 {
			t.Fatalf("P16.7: Print changes what it is given: %+v", before)
		}
		for _, c := range s.Cmds {
			for _, list := range [][]int{c.Fields, c.Hs} {
				if spare := list[len(list) : len(list)+3]; !reflect.DeepEqual(spare, []int{91, 92, 93}) {
					t.Fatalf("P16.7: Print changes the room behind a list: %v", spare)
				}
			}
		}
		if again := script.Print(s); again != text {
			t.Fatalf("W2: Print answers %q, and then %q", text, again)
		}
		s.Limit++
		for i := range s.Cmds {
			clear(s.Cmds[i].Fields)
			clear(s.Cmds[i].Hs)
		}
		clear(s.Over)
		if got, want := script.Print(s), plainPrint(s); got != want {
			t.Fatalf("P16.7: Print keeps something: %q, want %q", got, want)
		}
	}
}

// scribble: all lists of a script, and the room behind them, are written over.
func scribble(s api.Script) {
	for _, c := range s.Cmds {
		for _, list := range [][]int{c.Fields, c.Hs} {
			list = list[:cap(list)]
			for i := range list {
				list[i] = -1111
			}
		}
	}
	over, cmds := s.Over[:cap(s.Over)], s.Cmds[:cap(s.Cmds)]
	for i := range over {
		over[i] = api.Over{Key: "scribble", Hash: 1111}
	}
	for i := range cmds {
		cmds[i] = api.Cmd{Op: -1111}
	}
}

// TestParseAnswersNewMemory: what one answer holds is in no other answer, and no two of its lists share anything.
func TestParseAnswersNewMemory(t *testing.T) {
	d := draws(168)
	for range 2000 {
		text := d.spelt(d.script())
		one, _, e := script.Parse(text)
		two, _, _ := script.Parse(text)
		if e != api.OK || !same(one, two) {
			t.Fatalf("W2: Parse(%q) answers %+v, and then %+v, error %d", text, one, two, e)
		}
		kept := normal(two)
		scribble(one)
		if !reflect.DeepEqual(normal(two), kept) {
			t.Fatalf("W3: two answers to %q share memory", text)
		}
		if three, _, _ := script.Parse(text); !same(three, kept) {
			t.Fatalf("P16.7: Parse(%q) keeps what it has answered", text)
		}
		listsApart(t, two)
	}
}

// listsApart: each list's elements and the room behind them are its own.
func listsApart(t *testing.T, s api.Script) {
	t.Helper()
	var lists [][]int
	for i := range s.Cmds {
		lists = append(lists, s.Cmds[i].Fields, s.Cmds[i].Hs)
	}
	for i, list := range lists {
		list = list[:cap(list)]
		for j := range list {
			list[j] = i
		}
	}
	for i, list := range lists {
		for _, v := range list[:cap(list)] {
			if v != i {
				t.Fatalf("W3: two lists of one answer share memory: %+v", s)
			}
		}
	}
}

// shares: does the text lie in the memory of the whole?
func shares(text, whole string) bool {
	if text == "" || whole == "" {
		return false
	}
	at, from := uintptr(unsafe.Pointer(unsafe.StringData(text))), uintptr(unsafe.Pointer(unsafe.StringData(whole)))
	return at >= from && at < from+uintptr(len(whole))
}

// TestKeysKeepNoText: the bytes of a key or an elem lie in memory of their own, so that none keeps the text it was read of.
func TestKeysKeepNoText(t *testing.T) {
	text := "limit 5\nhash 'key 1\nhash 6b6579 1\nput 1 'key 'elem\nput 1 6b6579 656c656d\nget 1 'k\n"
	s, _, e := script.Parse(text)
	if e != api.OK || len(s.Over) != 2 || len(s.Cmds) != 3 {
		t.Fatalf("P16.1: Parse(%q) = %+v, error %d", text, s, e)
	}
	for _, b := range []string{s.Over[0].Key, s.Over[1].Key, s.Cmds[0].Key, s.Cmds[0].Elem, s.Cmds[1].Key, s.Cmds[1].Elem, s.Cmds[2].Key} {
		if shares(b, text) {
			t.Errorf("P16.7: the bytes %q lie in the text", b)
		}
	}
	line := strings.Clone("next pair 6b6579 656c656d")
	a, e := script.Read(line)
	if e != api.OK || shares(a.Key, line) || shares(a.Elem, line) {
		t.Errorf("P16.7: Read(%q) = %+v, error %d", line, a, e)
	}
}

// TestAnyText: any bytes as a text and as a line: each call ends, and answers the same once more.
func TestAnyText(t *testing.T) {
	d := draws(169)
	var texts []string
	for _, n := range []int{10000, 2000000} {
		texts = append(texts, strings.Repeat(" ", n), strings.Repeat("len 5 ", n/6), strings.Repeat("\n", n), "get yes "+strings.Repeat("6", n), "len "+strings.Repeat("9", n), "len -"+strings.Repeat("0", n), strings.Repeat("\xff", n))
	}
	for range 5000 {
		b := make([]byte, d.Intn(200))
		d.Read(b)
		texts = append(texts, string(b), "limit 5\n"+string(b), d.bytesOnly(), d.noise())
	}
	for _, text := range texts {
		s, line, e := script.Parse(text)
		u, again, f := script.Parse(text)
		if line != again || e != f || !reflect.DeepEqual(s, u) {
			t.Fatalf("W2: Parse(%q) answers line %d, error %d, and then line %d, error %d", short(text), line, e, again, f)
		}
		a, e := script.Read(text)
		if b, f := script.Read(text); a != b || e != f {
			t.Fatalf("W2: Read(%q) answers %+v, error %d, and then %+v, error %d", short(text), a, e, b, f)
		}
		if len(text) < 100000 { // patterns are slow
			asAnAnswer(t, text)
			asTheChapter(t, text)
		}
	}
}

// TestAnyAnswer: any answer has a line, and that line is read again; a script of any commands has a text.
func TestAnyAnswer(t *testing.T) {
	d := draws(1690)
	ops := append([]int{}, noOps...)
	for op := firstOp; op <= lastOp; op++ {
		ops = append(ops, op)
	}
	for range 20 {
		for _, op := range ops {
			for _, e := range []api.Errno{api.OK, api.ErrText, -5, math.MaxInt, math.MinInt} {
				a := d.answer(op)
				a.Err = e
				line := script.Show(a)
				if line != plainShow(a) || line != script.Show(a) {
					t.Fatalf("P16.4: Show(%+v) = %q", a, line)
				}
				asAnAnswer(t, line)
			}
		}
	}
}
