package journal_test

import (
	"fmt"
	"testing"

	"larder/api"
	"larder/image"
	"larder/journal"
)

// TestExample1: the chapter's first example.
func TestExample1(t *testing.T) {
	if j, e := journal.Begin(-1); j != nil || e != api.ErrLimit {
		t.Errorf("example 1: Begin(-1): error %d", e)
	}
	if j, e := journal.Begin(5, api.Over{}); j != nil || e != api.ErrLong {
		t.Errorf("example 1: Begin(5, api.Over{}): error %d", e)
	}
	want := "\x6C\x61\x72\x64\x65\x72\x32\x0A" + "\x00\x00\x00\x00\x00\x00\x00\x00" + "\x10\x00\x00\x00\x00\x00\x00\x00" + "\x00\x10\x00\x00\x00\x00\x00\x00" + "\x00\x00\x00\x00\x00\x00\x00\x00"
	log := string(begin(t, 4096).Log())
	if len(log) != 48 || log[:40] != want || log[40:] != words(plainMix(20, want)) {
		t.Errorf("example 1: Begin(4096): % x", log)
	}
	log = string(begin(t, 4096, api.Over{Key: "ab", Hash: 5}).Log())
	if len(log) != 66 || log[16:24] != words(34) {
		t.Errorf("example 1: with an override: % x", log)
	}
}

// added: how the log goes on behind a command: what it had is its beginning.
func added(t *testing.T, j *journal.Journal, c api.Cmd, want api.Answer) string {
	t.Helper()
	was := string(j.Log())
	if a := j.Do(c); a != want {
		t.Errorf("the chapter's examples: %+v: %+v, want %+v", c, a, want)
	}
	now := string(j.Log())
	if now[:len(was)] != was {
		t.Fatalf("the chapter's examples: %+v: the log has changed ahead of its end", c)
	}
	return now[len(was):]
}

// TestExamples2To5: the chapter's examples of records.
func TestExamples2To5(t *testing.T) {
	j := begin(t, 4096)
	if s := added(t, j, api.Cmd{Op: api.OpClone, H: 7}, api.Answer{Op: 7, Err: 140}); len(s) != 32 || s[:24] != words(16, 7, 7) {
		t.Errorf("example 2: % x", s)
	}
	for _, c := range []struct {
		c api.Cmd
		e api.Errno
	}{{api.Cmd{Op: api.OpGet, H: 1, Key: "a"}, api.ErrHandle}, {api.Cmd{Op: api.OpLive}, api.OK}, {api.Cmd{Op: api.OpAudit}, api.OK}, {api.Cmd{Op: 99}, api.ErrText}} {
		if s := added(t, j, c.c, api.Answer{Op: c.c.Op, Err: c.e}); s != "" {
			t.Errorf("example 3: %+v: % x", c.c, s)
		}
	}
	if s := added(t, j, api.Cmd{Op: api.OpPut, H: 3, Key: "a"}, api.Answer{Op: 3, Err: api.ErrHandle}); len(s) != 49 || s[:41] != words(33, 3, 3, 1)+"\x61"+words(0) {
		t.Errorf("example 4: % x", s)
	}
	if s := added(t, j, api.Cmd{Op: api.OpRelease}, api.Answer{Op: 10}); len(s) != 32 || s[:24] != words(16, 10, 0) {
		t.Errorf("example 5: % x", s)
	}
	if s := added(t, j, api.Cmd{Op: api.OpMake, U: 7, Fields: plain}, api.Answer{Op: 1, N: 1}); len(s) != 88 || s[:80] != words(72, 1, 7, 0, 5, 1, 1, 1, 1, 16) {
		t.Errorf("example 5: % x", s)
	}
}

// TestExample6: the chapter's example of cuts.
func TestExample6(t *testing.T) {
	j := begin(t, 4096)
	refused(t, "example 6: 47 bytes", string(j.Log()[:47]), api.ErrLog)
	refused(t, "example 6: no bytes", "", api.ErrLog)
	j.Do(api.Cmd{Op: api.OpMake, U: 7, Fields: plain})
	j.Do(api.Cmd{Op: api.OpPut, H: 1, Key: "a", Elem: "x"})
	log := string(j.Log())
	for cut := 48; cut < 48+88; cut++ {
		recoveredTo(t, fmt.Sprint("example 6: ", cut, " bytes"), log[:cut], 0, log[:48])
	}
	recoveredTo(t, "example 6: 136 bytes", log[:136], 1, log[:136])
	recoveredTo(t, "example 6: three zero bytes behind it", log+"\x00\x00\x00", 2, log)
}

// TestExample7: the chapter's example of a walk and a mark.
func TestExample7(t *testing.T) {
	j := begin(t, 4096)
	j.Do(api.Cmd{Op: api.OpMake, Fields: plain})
	for _, k := range []string{"a", "b", "c"} {
		j.Do(api.Cmd{Op: api.OpPut, H: 1, Key: k, Elem: k})
	}
	j.Do(api.Cmd{Op: api.OpOpen, H: 1})
	for _, k := range []string{"a", "b"} {
		if a := j.Do(api.Cmd{Op: api.OpNext, H: 2}); a != (api.Answer{Op: 9, Yes: true, Key: k, Elem: k}) {
			t.Fatalf("example 7: %+v", a)
		}
	}
	k := recovered(t, "example 7", string(j.Log()), 7)
	if a := k.Do(api.Cmd{Op: api.OpNext, H: 2}); a != (api.Answer{Op: 9, Yes: true, Key: "c", Elem: "c"}) {
		t.Errorf("example 7: the third pair is %+v", a)
	}
	if e := k.Mark(); e != api.ErrWalks {
		t.Errorf("example 7: Mark with a walk: error %d", e)
	}
	k.Do(api.Cmd{Op: api.OpRelease, Hs: []int{2}})
	if e := k.Mark(); e != api.OK {
		t.Errorf("example 7: Mark: error %d", e)
	}
	log := string(k.Log())
	b, _ := image.Save(k.Store())
	if log[8:16] != words(1) || len(log) != 32+len(b) {
		t.Errorf("example 7: % x", log)
	}
	if s := added(t, k, api.Cmd{Op: api.OpNext, H: 2}, api.Answer{Op: 9, Err: api.ErrGone}); s[:24] != words(16, 9, 2) || s[24:] != words(plainMix(lastWord(log), s[:24])) {
		t.Errorf("example 7: the first record behind a mark: % x", s)
	}
	recovered(t, "example 7: behind a mark", string(k.Log()), 1)
}

// TestExample8: the chapter's example of logs that nobody told.
func TestExample8(t *testing.T) {
	refused(t, "example 8: the limit 2^40", laid(headPiece(0, words(1<<40, 0))), api.ErrLimit)
	refused(t, "example 8: no image", laid(headPiece(1, "no image")), api.ErrLog)
	b, _ := image.Save(begin(t, 4096).Store())
	b[len(b)-1]++
	refused(t, "example 8: an image's wrong sum", laid(headPiece(1, string(b))), api.ErrSum)
	head := headPiece(0, newBody(4096))
	recoveredTo(t, "example 8: an OpGet", laid(head, recordPiece(words(2, 1, 1)+"a")), 0, laid(head))
	recoveredTo(t, "example 8: a byte behind its command", laid(head, recordPiece(words(7, 1)+"\x00")), 0, laid(head))
}
