package larder_test

import (
	"bytes"
	"encoding/binary"
	"fmt"
	"math"
	"slices"
	"testing"

	"larder/api"
	"larder/image"
	"larder/journal"
	"larder/larder"
	"larder/oracle"
)

// changing: the Ops of the commands that a journal writes down.
var changing = []int{api.OpMake, api.OpPut, api.OpDelete, api.OpClear, api.OpClone, api.OpOpen, api.OpNext, api.OpRelease}

// changes: those of the commands that a journal writes down.
func changes(cmds []api.Cmd) []api.Cmd {
	return slices.DeleteFunc(slices.Clone(cmds), func(c api.Cmd) bool { return !slices.Contains(changing, c.Op) })
}

// journaled: a journal behind these commands.
func journaled(t testing.TB, s story) *journal.Journal {
	t.Helper()
	j, e := journal.Begin(s.limit, s.over...)
	if e != api.OK {
		t.Fatalf("journal.Begin: error %d", e)
	}
	for _, c := range s.cmds {
		j.Do(c)
	}
	return j
}

// TestLog: P22.5: the log is that of a journal by which the commands were done; all of it is replayed, to the script's dump.
func TestLog(t *testing.T) {
	for _, s := range stories(t, 5, 250) {
		log := logged(t, s.text())
		if want := journaled(t, s).Log(); !bytes.Equal(log, want) {
			t.Fatalf("P22.5: %s: the log is another: %d bytes, want %d", s.what, len(log), len(want))
		}
		replayed(t, s.what, log, len(changes(s.cmds)), followed(t, s).dump(s.over))
		replayed(t, s.what, log, len(changes(s.cmds)), dumped(t, s.text()))
	}
}

// cutAnywhere: P22.5, U10: the log of a script is cut off at every place.
func cutAnywhere(t *testing.T, s story) {
	t.Helper()
	log, head := logged(t, s.text()), len(logged(t, printed(s.limit, s.over)))
	cmds := changes(s.cmds)
	n, next := -1, head
	dump := ""
	for cut := range len(log) + 1 {
		if cut == next {
			n++
			dump = dumped(t, printed(s.limit, s.over, cmds[:n]...))
			next = len(logged(t, printed(s.limit, s.over, cmds[:min(n+1, len(cmds))]...)))
		}
		what := fmt.Sprint(s.what, ", cut off at ", cut)
		if n < 0 {
			noReplay(t, what, log[:cut], api.ErrLog)
		} else {
			replayed(t, what, log[:cut], n, dump)
		}
	}
	if n != len(cmds) {
		t.Fatalf("P22.5: %s: the log tells %d commands, want %d", s.what, n, len(cmds))
	}
}

// TestCutOff: P22.5, U10: a log that is cut off at every place, in its head too; commands that a journal does not write down stand between the others.
func TestCutOff(t *testing.T) {
	every := []api.Cmd{{Op: api.OpLive}, {Op: api.OpMake, U: 3, Fields: plain}, {Op: api.OpPut, H: 1, Key: "b", Elem: "x"}, {Op: api.OpAudit}, {Op: api.OpPut, H: 1, Key: "a", Elem: "y"}, {Op: api.OpGet, H: 1, Key: "b"}, {Op: api.OpOpen, H: 1, U: 1, V: 2}, {Op: api.OpNext, H: 2}, {Op: api.OpClone, H: 1}, {Op: api.OpLen, H: 3}, {Op: api.OpDelete, H: 3, Key: "a"}, {Op: api.OpProbes, H: 1, Key: "a"}, {Op: api.OpClear, H: 1, U: 77}, {Op: api.OpSlots, H: 1}, {Op: api.OpNext, H: 2}, {Op: api.OpNext, H: -2}, {Op: api.OpPut, H: 1, Key: "c", Elem: "z"}, {Op: api.OpRelease}, {Op: api.OpRelease, Hs: []int{3, 2}}, {Op: api.OpPut, H: 1}, {Op: api.OpLive}}
	cutAnywhere(t, story{"a head alone", 0, nil, nil})
	cutAnywhere(t, story{"nothing is written down", 4096, longOvers()[60:], []api.Cmd{{Op: api.OpLive}, {Op: api.OpGet, H: 1}, {Op: api.OpAudit}, {Op: api.OpLen}, {Op: api.OpSlots}, {Op: api.OpProbes}}})
	cutAnywhere(t, story{"each command", 4096, nil, every})
	cutAnywhere(t, story{"each command, overrides", 4096, []api.Over{{Key: "b", Hash: 1 << 63}, {Key: "a", Hash: 5}}, every})
	for _, s := range stories(t, 1, 40) {
		if len(s.over) == 0 {
			cutAnywhere(t, s)
		}
	}
}

// TestNotWrittenDown: P22.5: commands that change nothing are seen neither in the log nor in the number.
func TestNotWrittenDown(t *testing.T) {
	for _, s := range stories(t, 1, 200) {
		log, without := logged(t, s.text()), logged(t, printed(s.limit, s.over, changes(s.cmds)...))
		if !bytes.Equal(log, without) {
			t.Fatalf("P22.5: %s: commands that change nothing are seen in the log", s.what)
		}
	}
}

// TestSpoiltLog: P22.5: a byte of the log is another: the records ahead of it are told; in the head it is refused.
func TestSpoiltLog(t *testing.T) {
	s := story{"a log", 4096, []api.Over{{Key: "a", Hash: 5}}, puts(1, 4, plain...)}
	log := logged(t, s.text())
	var ends []int
	for n := range len(s.cmds) + 1 {
		ends = append(ends, len(logged(t, printed(s.limit, s.over, s.cmds[:n]...))))
	}
	for at := range log {
		b := bytes.Clone(log)
		b[at] ^= byte(1 + at%255)
		n := slices.IndexFunc(ends, func(end int) bool { return at < end })
		if n == 0 {
			noReplay(t, fmt.Sprint("byte ", at, " is another"), b, api.ErrLog)
			continue
		}
		replayed(t, fmt.Sprint("byte ", at, " is another"), b, n-1, dumped(t, printed(s.limit, s.over, s.cmds[:n-1]...)))
	}
}

// TestReplayImages: P22.5: logs that begin with an image: the commands behind it are counted, and all maps are told; cut off in the image they are refused.
func TestReplayImages(t *testing.T) {
	for _, s := range stories(t, 2, 160) {
		j := journaled(t, s)
		j.Do(api.Cmd{Op: api.OpRelease, Hs: walksOf(j.Store())})
		if e := j.Mark(); e != api.OK {
			t.Fatal(e)
		}
		head := len(j.Log())
		f := followed(t, s)
		f.walks = map[int]*finiteWalk{}
		replayed(t, s.what+", an image", j.Log(), 0, f.dump(s.over))
		d := drawer{draws(t, 9, 0).Rand, j.Store()}
		n := 0
		for range 25 {
			c := d.command()
			f.follow(c, j.Do(c))
			n += len(changes([]api.Cmd{c}))
			replayed(t, s.what+", commands behind an image", j.Log(), n, f.dump(s.over))
		}
		for cut := 0; cut < head; cut += 1 + head/40 {
			noReplay(t, fmt.Sprint(s.what, ", cut off at ", cut), j.Log()[:cut], api.ErrLog)
		}
	}
}

// headed: a log of that kind with such a body, and no record.
func headed(kind uint64, body []byte) []byte {
	b := binary.LittleEndian.AppendUint64([]byte("larder2\n"), kind)
	b = append(binary.LittleEndian.AppendUint64(b, uint64(len(body))), body...)
	return binary.LittleEndian.AppendUint64(b, oracle.Mix(20, string(b)))
}

// words: numbers as bytes.
func words(l ...uint64) []byte {
	var b []byte
	for _, v := range l {
		b = binary.LittleEndian.AppendUint64(b, v)
	}
	return b
}

// TestReplayRefused: P22.5: bytes that are no log, and logs that no store begins with.
func TestReplayRefused(t *testing.T) {
	one := saved(t, text("limit 4096 | make 7 0 1 1 1 1 16 | put 1 'a 'x"))
	twice := slices.Concat(words(4096, 2, 1), []byte("a"), words(0, 1), []byte("a"), words(0))
	for _, c := range []struct {
		what string
		log  []byte
		want api.Errno
	}{
		{"no bytes", nil, api.ErrLog},
		{"a text", []byte("limit 4096\n"), api.ErrLog},
		{"an image", one, api.ErrLog},
		{"another kind", headed(2, words(4096, 0)), api.ErrLog},
		{"a body that is too long", headed(0, words(4096, 0, 0)), api.ErrLog},
		{"no image within", headed(1, words(4096, 0)), api.ErrLog},
		{"a limit that is too great", headed(0, words(1<<40, 0)), api.ErrLimit},
		{"an override without a key", headed(0, words(4096, 1, 0, 7)), api.ErrLong},
		{"two overrides of one key", headed(0, twice), api.ErrTwice},
		{"an image with a wrong sum", headed(1, append(bytes.Clone(one[:len(one)-1]), one[len(one)-1]^1)), api.ErrSum},
		{"an image with a limit below 0", headed(1, with(one, 8, math.MaxUint64)), api.ErrLimit},
		{"an image without a next handle", headed(1, with(one, 24, 0)), api.ErrHold},
		{"an image that is not sound", headed(1, with(one, len(one)-8-64-192, 2)), api.ErrSound},
	} {
		noReplay(t, c.what, c.log, c.want)
	}
	replayed(t, "the same, but right", headed(0, words(4096, 0)), 0, "limit 2097152\n")
	replayed(t, "the same, but right", headed(1, one), 0, text("limit 2097152 | make 0x7 0 1 1 1 1 16 | put 1 61 78"))
}

// TestReplayPinned: P22.5: a log's image in which blocks have as many pins as there may be: all pairs are told all the same.
func TestReplayPinned(t *testing.T) {
	for _, keys := range []int{1, 8, 9, 40} {
		s := story{fmt.Sprint(keys, " keys"), 1 << 16, nil, puts(1, keys, plain...)}
		store := behind(t, s.limit, nil, s.cmds...)
		img, _ := image.Save(store)
		at := len(img) - 8 - store.Live() // where the live blocks' bytes begin
		pinned := 0
		for off, size := range store.Arena().Blocks() {
			kind, _ := store.Arena().Load(off, 8)
			if kind == api.KindSmall && size == 192 || kind == api.KindTable && size == 64 && off > 16 {
				img = with(img, at+8, api.MaxPins)
				pinned++
			}
			at += size
		}
		if pinned == 0 {
			t.Fatalf("%s: nothing is pinned", s.what)
		}
		replayed(t, s.what, headed(1, img), 0, followed(t, s).dump(nil))
	}
}

// TestReplayBehindTheEnd: P22.5: what stands behind the last whole record is let go, and is not counted.
func TestReplayBehindTheEnd(t *testing.T) {
	in := text("limit 4096 | make 7 0 1 1 1 1 16 | put 1 'a 'x")
	log := logged(t, in)
	for _, more := range []string{"\x00", "\x00\x00\x00", "limit 4096\n", string(log)} {
		replayed(t, fmt.Sprintf("%.12q behind it", more), append(bytes.Clone(log), more...), 2, dumped(t, in))
	}
}

// TestReplayOwnOverrides: P22.5: the overrides of a log are told in their order, of one that begins with an image too.
func TestReplayOwnOverrides(t *testing.T) {
	j := journaled(t, story{"", 4096, longOvers(), nil})
	want := dumped(t, printed(77, longOvers()))
	replayed(t, "overrides", j.Log(), 0, want)
	if e := j.Mark(); e != api.OK {
		t.Fatal(e)
	}
	replayed(t, "overrides of an image", j.Log(), 0, want)
	if _, _, e := larder.Log(printed(-1, longOvers())); e != api.ErrLimit {
		t.Errorf("P22.5: Log of a limit below 0: error %d", e)
	}
}
