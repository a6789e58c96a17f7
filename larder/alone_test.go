package larder_test

import (
	"bytes"
	"fmt"
	"slices"
	"testing"

	"larder/api"
	"larder/larder"
)

// allOf: what each of the calls answers for a story, told as texts.
func allOf(s story) []string {
	l, e := larder.Play(s.script())
	all := []string{fmt.Sprint(l, e)}
	for _, f := range textCalls {
		out, line, e := f.call(s.text())
		all = append(all, fmt.Sprint(out, line, e))
	}
	img, _, _ := larder.Save(s.text())
	out, line, e := larder.Resume(img, s.text())
	all = append(all, fmt.Sprint(out, line, e))
	log, _, _ := larder.Log(s.text())
	n, dump, e := larder.Replay(log)
	return append(all, fmt.Sprint(n, dump, e))
}

// TestSameAgain: P22.6: the same arguments have the same answers again, whatever was asked between.
func TestSameAgain(t *testing.T) {
	list := append(stories(t, 2, 120), story{"a wrong limit", -1, nil, nil}, story{"a wrong override", 5, []api.Over{{}}, puts(1, 3, plain...)})
	var was [][]string
	for _, s := range list {
		was = append(was, allOf(s))
	}
	for i := range list {
		at := len(list) - 1 - i
		if now := allOf(list[at]); !slices.Equal(now, was[at]) {
			t.Errorf("P22.6: %s: %.500q, and the first time %.500q", list[at].what, now, was[at])
		}
	}
}

// roomy: a copy with so much room behind it that an append would write there, and marks in that room.
func roomy[T any](l []T, mark T) []T {
	c := append(slices.Clone(l), mark, mark, mark)
	return c[:len(l)]
}

// whole: a list with the room behind it.
func whole[T any](l []T) string { return fmt.Sprintf("%#v", l[:cap(l)]) }

// TestHandedIn: P22.6, W3: the lists that are handed in, and those inside of them, are not changed, nor the room behind them.
func TestHandedIn(t *testing.T) {
	for _, s := range stories(t, 1, 150) {
		s.cmds = append(s.cmds, api.Cmd{Op: api.OpRelease, Hs: []int{9, 3, 3, 7, 3}}, api.Cmd{Op: api.OpMake, Fields: []int{5, 4, 3, 2, 1, 1}}, api.Cmd{Op: 99, Hs: []int{2, 1}, Fields: []int{4, 4, 2}})
		given := api.Script{Limit: s.limit, Over: roomy(s.over, api.Over{Key: "room", Hash: 77})}
		cmds := slices.Clone(s.cmds)
		for i, c := range cmds {
			cmds[i].Fields, cmds[i].Hs = roomy(c.Fields, 4242), roomy(c.Hs, 4243)
		}
		given.Cmds = roomy(cmds, api.Cmd{Op: api.OpLive})
		lists := func() string {
			told := whole(given.Over) + whole(given.Cmds)
			for _, c := range given.Cmds {
				told += whole(c.Fields) + whole(c.Hs)
			}
			return told
		}
		was := lists()
		larder.Play(given)
		if lists() != was {
			t.Fatalf("W3: %s: Play has changed a list", s.what)
		}
		img, log := roomy(saved(t, s.text()), 0xA5), roomy(logged(t, s.text()), 0xA5)
		wasBytes := whole(img) + whole(log)
		larder.Resume(img, s.text())
		larder.Replay(log)
		larder.Replay(log[:len(log)-1])
		larder.Resume(img[:len(img)-1], s.text())
		if whole(img)+whole(log) != wasBytes {
			t.Fatalf("W3: %s: Resume or Replay has changed the bytes", s.what)
		}
	}
}

// scribble: all bytes are changed, those of the spare room too.
func scribble(b []byte) {
	b = b[:cap(b)]
	for i := range b {
		b[i] ^= 0xA5
	}
}

// TestAnsweredAnew: P22.6, W3: what is answered is new memory: what is written over it is seen in no later answer, nor in what was handed in.
func TestAnsweredAnew(t *testing.T) {
	for _, s := range stories(t, 1, 150) {
		was := allOf(s)
		given := s.script()
		wasGiven := fmt.Sprintf("%#v", given)
		l, _ := larder.Play(given)
		l = l[:cap(l)]
		for i := range l {
			l[i] = api.Answer{Op: 7, N: 7, Key: "spoilt", Elem: "spoilt"}
		}
		scribble(saved(t, s.text()))
		scribble(logged(t, s.text()))
		if now := allOf(s); !slices.Equal(now, was) {
			t.Fatalf("P22.6: %s: what was written over an answer is seen later", s.what)
		}
		if fmt.Sprintf("%#v", given) != wasGiven {
			t.Fatalf("P22.6: %s: what was written over an answer is seen in what was handed in", s.what)
		}
	}
}

// TestHandedInLater: P22.6: what is done later to what was handed in is not seen in what was answered.
func TestHandedInLater(t *testing.T) {
	s := stories(t, 1, 150)[3]
	given := api.Script{Limit: s.limit, Over: slices.Clone(s.over), Cmds: slices.Clone(s.cmds)}
	l, _ := larder.Play(given)
	img, log := saved(t, s.text()), logged(t, s.text())
	out, _, _ := larder.Resume(img, s.text())
	_, dump, _ := larder.Replay(log)
	told := func() string { return fmt.Sprintf("%#v %q %q", l, out, dump) }
	was := told()
	clear(given.Over)
	clear(given.Cmds)
	scribble(img)
	scribble(log)
	if told() != was {
		t.Error("P22.6: an answer has changed with what was handed in")
	}
}

// TestSaveAndLogApart: P22.6: two answers to the same text have no memory in common.
func TestSaveAndLogApart(t *testing.T) {
	in := printed(4096, longOvers()[50:], puts(1, 9, plain...)...)
	img, log := saved(t, in), logged(t, in)
	wasImg, wasLog := bytes.Clone(img), bytes.Clone(log)
	scribble(saved(t, in))
	scribble(logged(t, in))
	if !bytes.Equal(img, wasImg) || !bytes.Equal(log, wasLog) {
		t.Error("P22.6: two answers share memory")
	}
}
