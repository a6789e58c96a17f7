package larder_test

import (
	"bytes"
	"encoding/binary"
	"fmt"
	"math"
	"strings"
	"testing"

	"larder/api"
	"larder/image"
	"larder/larder"
	"larder/script"
	"larder/store"
)

// behind: a store behind these commands, whatever they answer.
func behind(t testing.TB, limit int, over []api.Over, cmds ...api.Cmd) *store.Store {
	t.Helper()
	s, e := store.New(limit, over...)
	if e != api.OK {
		t.Fatalf("store.New: error %d", e)
	}
	for _, c := range cmds {
		script.Play(s, c)
	}
	return s
}

// TestSave: P22.4: the image is that of a store on which the commands were played and the walks released together.
func TestSave(t *testing.T) {
	walks := 0
	for _, s := range stories(t, 5, 250) {
		alone := behind(t, s.limit, s.over, s.cmds...)
		walks += len(walksOf(alone))
		if e := alone.Release(walksOf(alone)...); e != api.OK {
			t.Fatal(e)
		}
		want, e := image.Save(alone)
		if e != api.OK {
			t.Fatal(e)
		}
		if img := saved(t, s.text()); !bytes.Equal(img, want) {
			t.Fatalf("P22.4: %s: the image is another: %d bytes, want %d", s.what, len(img), len(want))
		}
	}
	if walks < 100 {
		t.Errorf("the test is too tame: %d walks", walks)
	}
}

// TestSaveNothing: P22.4: the image of chapter 19's example.
func TestSaveNothing(t *testing.T) {
	want := "larder1\n\x00\x10" + strings.Repeat("\x00", 14) + "\x01" + strings.Repeat("\x00", 31) + "\x56\xA3\x04\x93\x22\xB0\x85\x68"
	if img := saved(t, "limit 4096"); string(img) != want {
		t.Errorf("P22.4: % x, want % x", img, want)
	}
}

// cutInTwo: P22.4, U9: the script is cut at that place; the walks that are left there are released by one more command.
func cutInTwo(t *testing.T, s story, cut int) (walks int) {
	t.Helper()
	first, second := s.cmds[:cut:cut], s.cmds[cut:]
	left := walksOf(behind(t, s.limit, s.over, first...))
	whole := append(append(first, api.Cmd{Op: api.OpRelease, Hs: left}), second...)
	all := strings.SplitAfter(ran(t, printed(s.limit, s.over, whole...)), "\n")
	want := strings.Join(all[cut+1:], "")
	img := saved(t, printed(s.limit, s.over, first...))
	if out := resumed(t, img, printed(s.limit, s.over, second...)); out != want {
		t.Fatalf("P22.4: %s, cut at %d: %.600q, want %.600q", s.what, cut, out, want)
	}
	return len(left)
}

// TestCutInTwo: P22.4, U9: scripts that are cut at every place, with walks that are left.
func TestCutInTwo(t *testing.T) {
	walks := 0
	for _, s := range stories(t, 1, 100) {
		for cut := range len(s.cmds) + 1 {
			walks += cutInTwo(t, s, cut)
		}
	}
	for _, s := range stories(t, 2, 400) {
		for cut := 37; cut < len(s.cmds); cut += 73 {
			walks += cutInTwo(t, s, cut)
		}
	}
	if walks < 1000 {
		t.Errorf("the test is too tame: %d walks", walks)
	}
}

// TestCutAtRetired: P22.4: walks that stand on blocks which their map has replaced: what they alone kept is free in the image.
func TestCutAtRetired(t *testing.T) {
	cmds := puts(1, 8, plain...)
	for n := range 5 { // five walks, each with a step behind further growth of its map
		cmds = append(cmds, api.Cmd{Op: api.OpOpen, H: 1, U: uint64(n), V: uint64(3 * n)}, api.Cmd{Op: api.OpNext, H: n + 2})
		for k := range 12 {
			cmds = append(cmds, api.Cmd{Op: api.OpPut, H: 1, Key: key(1, 10+12*n+k), Elem: "n"})
		}
	}
	cmds = append(cmds, api.Cmd{Op: api.OpLive}, api.Cmd{Op: api.OpAudit}, api.Cmd{Op: api.OpNext, H: 3}, api.Cmd{Op: api.OpOpen, H: 1}, api.Cmd{Op: api.OpNext, H: 7}, api.Cmd{Op: api.OpMake, N: 20, Fields: plain}, api.Cmd{Op: api.OpLive}, api.Cmd{Op: api.OpClone, H: 1}, api.Cmd{Op: api.OpLive})
	for _, k := range hashes {
		for cut := range len(cmds) + 1 {
			cutInTwo(t, story{k.name, 1 << 16, overs(k.of), cmds}, cut)
		}
	}
}

// sealed: an image's bytes with the right sum at their end.
func sealed(img []byte) []byte {
	n := len(img) - 8
	return binary.LittleEndian.AppendUint64(img[:n:n], image.Sum(img[:n]))
}

// with: an image with another word at that place, and the right sum.
func with(img []byte, at int, v uint64) []byte {
	b := bytes.Clone(img)
	binary.LittleEndian.PutUint64(b[at:], v)
	return sealed(b)
}

// TestResumeRefused: P22.4: the text's refusals first, with their line; then the image's, without one.
func TestResumeRefused(t *testing.T) {
	none := saved(t, "limit 4096\n")
	one := saved(t, text("limit 4096 | make 7 0 1 1 1 1 16 | put 1 'a 'x"))
	header := len(one) - 8 - 64 - 192 // the live bytes: a header and a small block
	for _, c := range []struct {
		what string
		img  []byte
		want api.Errno
	}{
		{"no bytes", nil, api.ErrImage},
		{"no image", []byte("limit 4096\n"), api.ErrImage},
		{"an image that is cut off", one[:len(one)-1], api.ErrImage},
		{"a byte more", append(bytes.Clone(one), 0), api.ErrImage},
		{"a log", logged(t, "limit 4096"), api.ErrImage},
		{"a wrong sum", append(bytes.Clone(one[:len(one)-1]), one[len(one)-1]^1), api.ErrSum},
		{"a limit below 0", with(none, 8, math.MaxUint64), api.ErrLimit},
		{"no next handle", with(none, 24, 0), api.ErrHold},
		{"a header that is spoilt", with(one, header, 2), api.ErrSound},
	} {
		noResume(t, c.what, c.img, "limit 4096\nlive\n", 0, c.want)
		noResume(t, c.what+", without commands", c.img, "limit -1\nhash - 1\n", 0, c.want)
		noResume(t, c.what+", and a wrong text", c.img, "limit 4096\nlive 1\n", 2, api.ErrText)
		noResume(t, c.what+", and a number that is too great", c.img, "limit 4096\n\nlen 9223372036854775808\n", 3, api.ErrRange)
	}
	noResume(t, "a right image and a wrong text", one, "limit 4096\nlen 1\nlen\n", 3, api.ErrText)
	noResume(t, "a right image and no text", one, "", 1, api.ErrText)
}

// TestResumeBeginnings: P22.4: the limit and the overrides of Resume's text are not looked at: those that no store can begin with, and those that would be another hash.
func TestResumeBeginnings(t *testing.T) {
	cmds := append(puts(1, 30, plain...), api.Cmd{Op: api.OpOpen, H: 1, U: 1, V: 2})
	more := []api.Cmd{{Op: api.OpProbes, H: 1, Key: key(1, 3)}, {Op: api.OpSlots, H: 1}, {Op: api.OpMake, N: 4000, Fields: plain}, {Op: api.OpNext, H: 2}, {Op: api.OpOpen, H: 1, U: 1, V: 2}, {Op: api.OpNext, H: 3}, {Op: api.OpNext, H: 3}, {Op: api.OpGet, H: 1, Key: key(1, 29)}, {Op: api.OpLive}, {Op: api.OpAudit}}
	for _, k := range hashes {
		img := saved(t, printed(9999, overs(k.of), cmds...))
		want := resumed(t, img, printed(9999, overs(k.of), more...))
		if !strings.Contains(want, "make error 22\nnext error 141\nopen 3\nnext pair ") {
			t.Fatalf("P22.4: %s: %q", k.name, want)
		}
		for _, c := range beginnings() {
			if out := resumed(t, img, printed(c.limit, c.over, more...)); out != want {
				t.Errorf("P22.4: %s: %s: %q, want %q", k.name, c.what, out, want)
			}
		}
		if out := resumed(t, img, "limit 0\n"); out != "" {
			t.Errorf("P22.4: a text without commands: %q", out)
		}
	}
}

// TestResumeAgain: P22.4: an image is not used up: a text that changes the maps answers the same again.
func TestResumeAgain(t *testing.T) {
	img := saved(t, text("limit 4096 | make 7 0 1 1 1 1 16 | put 1 'a 'x"))
	was := bytes.Clone(img)
	for n := range 3 {
		out := resumed(t, img, text("limit 0 | put 1 'b 'y | len 1 | clear 1 0 | release 1 | live | make 0 0 1 1 1 1 16"))
		if want := text("put new | len 2 | clear | release | live 0 | make 2"); out != want {
			t.Errorf("P22.4: for the time %d: %q, want %q", n, out, want)
		}
	}
	if !bytes.Equal(img, was) {
		t.Error("P22.6: Resume has changed the image")
	}
}

// TestSpoiltImage: U9: an image in which a byte is another, or which is cut off, is refused.
func TestSpoiltImage(t *testing.T) {
	img := saved(t, printed(4096, longOvers()[60:], puts(1, 12, plain...)...))
	for at := range img {
		b := bytes.Clone(img)
		b[at] ^= byte(1 + at%255)
		if out, line, e := larder.Resume(b, "limit 0\nlen 1\n"); out != "" || line != 0 || e != api.ErrImage && e != api.ErrSum {
			t.Fatalf("U9: byte %d is another: %q, line %d, error %d", at, out, line, e)
		}
		noResume(t, fmt.Sprint("cut off at ", at), img[:at], "limit 0\nlen 1\n", 0, api.ErrImage)
	}
}
