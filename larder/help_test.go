package larder_test

import (
	"fmt"
	"math"
	"math/rand"
	"strings"
	"testing"

	"larder/api"
	"larder/larder"
	"larder/script"
	"larder/store"
)

// plain: the descriptor of the document's examples.
var plain = []int{1, 1, 1, 1, 16}

// text: lines, a bar between each two; each has its end.
func text(bars string) string {
	if bars == "" {
		return ""
	}
	var l []string
	for _, line := range strings.Split(bars, "|") {
		l = append(l, strings.TrimSpace(line))
	}
	return strings.Join(l, "\n") + "\n"
}

// printed: the text of a script with these commands.
func printed(limit int, over []api.Over, cmds ...api.Cmd) string {
	return script.Print(api.Script{Limit: limit, Over: over, Cmds: cmds})
}

// ran, dumped, saved, logged, resumed, replayed: what is answered, where it must not be refused.

func ran(t testing.TB, text string) string {
	t.Helper()
	out, line, e := larder.Run(text)
	if line != 0 || e != api.OK {
		t.Fatalf("P22.2: Run(%.300q): line %d, error %d", text, line, e)
	}
	return out
}

func dumped(t testing.TB, text string) string {
	t.Helper()
	out, line, e := larder.Dump(text)
	if line != 0 || e != api.OK {
		t.Fatalf("P22.3: Dump(%.300q): line %d, error %d", text, line, e)
	}
	return out
}

func saved(t testing.TB, text string) []byte {
	t.Helper()
	img, line, e := larder.Save(text)
	if line != 0 || e != api.OK {
		t.Fatalf("P22.4: Save(%.300q): line %d, error %d", text, line, e)
	}
	return img
}

func resumed(t testing.TB, img []byte, text string) string {
	t.Helper()
	out, line, e := larder.Resume(img, text)
	if line != 0 || e != api.OK {
		t.Fatalf("P22.4: Resume of %d bytes, %.300q: line %d, error %d", len(img), text, line, e)
	}
	return out
}

func logged(t testing.TB, text string) []byte {
	t.Helper()
	log, line, e := larder.Log(text)
	if line != 0 || e != api.OK {
		t.Fatalf("P22.5: Log(%.300q): line %d, error %d", text, line, e)
	}
	return log
}

func replayed(t testing.TB, what string, log []byte, n int, dump string) {
	t.Helper()
	if k, d, e := larder.Replay(log); k != n || d != dump || e != api.OK {
		t.Fatalf("P22.5: %s: Replay: %d, %.300q, error %d, want %d, %.300q", what, k, d, e, n, dump)
	}
}

// noReplay: the log is refused by that error.
func noReplay(t testing.TB, what string, log []byte, want api.Errno) {
	t.Helper()
	if k, d, e := larder.Replay(log); k != 0 || d != "" || e != want {
		t.Errorf("P22.5: %s: Replay: %d, %.300q, error %d, want error %d", what, k, d, e, want)
	}
}

// noResume: the image or the text is refused, at that line and by that error.
func noResume(t testing.TB, what string, img []byte, text string, line int, want api.Errno) {
	t.Helper()
	if out, at, e := larder.Resume(img, text); out != "" || at != line || e != want {
		t.Errorf("P22.4: %s: Resume: %q, line %d, error %d, want line %d, error %d", what, out, at, e, line, want)
	}
}

// key: the key with that number, of so many bytes. (37 is odd: all keys of a width are told apart, and do not come in their order.)
func key(width, n int) string {
	b := make([]byte, width)
	for i := range b {
		b[i] = byte(n * 37 >> (8 * (i % 7)))
	}
	return string(b)
}

// hashes: overrides by which keys of one byte lie close together, or far apart.
var hashes = []struct {
	name string
	of   func(n int) uint64
}{
	{"hashes all the same", func(int) uint64 { return 5*128 + 9 }},
	{"few hashes", func(n int) uint64 { return []uint64{0, math.MaxUint64, 3*128 + 5, 1 << 63, 1 << 62}[n%5] }},
	{"many hashes", nil},
}

// overs: overrides for the keys of one byte with the numbers 0 to 63.
func overs(of func(n int) uint64) []api.Over {
	var l []api.Over
	for n := 0; of != nil && n < api.MaxOver; n++ {
		l = append(l, api.Over{Key: key(1, n), Hash: of(n)})
	}
	return l
}

// longOvers: as many overrides as there may be, with keys of 1 to 128 bytes, not in the order of the keys, and hashes up to the greatest.
func longOvers() []api.Over {
	var l []api.Over
	for n := range api.MaxOver {
		l = append(l, api.Over{Key: strings.Repeat(string(rune('z'-n%26)), api.MaxKey-2*n), Hash: math.MaxUint64 / uint64(1+n*n*n)})
	}
	l[len(l)-1].Key = "\x00"
	return l
}

// puts: a map is made, and so many keys are put into it, behind that handle.
func puts(h, keys int, fields ...int) []api.Cmd {
	l := []api.Cmd{{Op: api.OpMake, U: uint64(h), Fields: fields}}
	for n := range keys {
		l = append(l, api.Cmd{Op: api.OpPut, H: h, Key: key(fields[0], n), Elem: key(fields[1], n+h)})
	}
	return l
}

// walksOf: the handles of the walks that are not released.
func walksOf(s *store.Store) []int {
	maps := map[int]int{}
	for _, k := range s.Hold().Maps {
		maps[k.Handle] = 1
	}
	var l []int
	for _, h := range s.Handles() {
		if maps[h] == 0 {
			l = append(l, h)
		}
	}
	return l
}

// drawer: commands, drawn for a store on which they are played.
type drawer struct {
	*rand.Rand
	store *store.Store
}

func draws(t testing.TB, seed int64, limit int, over ...api.Over) drawer {
	t.Helper()
	s, e := store.New(limit, over...)
	if e != api.OK {
		t.Fatalf("store.New: error %d", e)
	}
	return drawer{rand.New(rand.NewSource(seed)), s}
}

// script: so many commands.
func (d drawer) script(n int) []api.Cmd {
	var l []api.Cmd
	for range n {
		c := d.command()
		script.Play(d.store, c)
		l = append(l, c)
	}
	return l
}

// descriptors: of which some are wrong.
var descriptors = [][]int{plain, plain, plain, {1, 0, 1, 1, 32}, {2, 3, 2, 1, 16}, {8, 8, 8, 8, 1024}, {5, 4, 1, 4, 64}, {1, 1, 1, 1, 17}, {-1, math.MinInt, math.MaxInt, 0, -16}, {1, 1, 1}, nil}

// command: for the store as it is now; what its Op does not use is zero.
func (d drawer) command() api.Cmd {
	if len(d.store.Hold().Maps) == 0 && d.Intn(2) == 0 {
		return d.maker()
	}
	h := d.handle(d.store.Hold().Maps)
	k, v := d.pair(h)
	switch n := d.Intn(100); {
	case n < 40:
		return api.Cmd{Op: api.OpPut, H: h, Key: k, Elem: v}
	case n < 52:
		return api.Cmd{Op: api.OpDelete, H: h, Key: k}
	case n < 57:
		return api.Cmd{Op: []int{api.OpGet, api.OpProbes}[d.Intn(2)], H: h, Key: k}
	case n < 61:
		return api.Cmd{Op: []int{api.OpLen, api.OpSlots}[d.Intn(2)], H: h}
	case n < 63:
		return api.Cmd{Op: []int{api.OpLive, api.OpAudit}[d.Intn(2)]}
	case n < 68:
		return d.maker()
	case n < 70:
		return api.Cmd{Op: api.OpClear, H: h, U: d.word()}
	case n < 74:
		return api.Cmd{Op: api.OpClone, H: h}
	case n < 80:
		return api.Cmd{Op: api.OpOpen, H: h, U: d.word(), V: d.word()}
	case n < 95:
		return api.Cmd{Op: api.OpNext, H: d.walk()}
	}
	return d.release()
}

func (d drawer) word() uint64 { return d.Uint64() >> d.Intn(64) }

func (d drawer) maker() api.Cmd {
	c := api.Cmd{Op: api.OpMake, U: d.word(), N: []int{0, 0, 0, 5, 8, 9, 15, 40}[d.Intn(8)], Fields: descriptors[d.Intn(len(descriptors))]}
	if d.Intn(12) == 0 {
		c.N = []int{-1, api.MaxHint, api.MaxHint + 1, math.MinInt, math.MaxInt}[d.Intn(5)]
	}
	return c
}

// handle: mostly that of one of these maps; now and then another.
func (d drawer) handle(maps []api.Kept) int {
	switch n := d.Intn(40); {
	case n == 0:
		return []int{0, -1, math.MinInt, math.MaxInt, 1 << 62}[d.Intn(5)]
	case n < 3 || len(maps) == 0:
		return d.Intn(d.store.Hold().Next+2) - 1
	}
	return maps[d.Intn(len(maps))].Handle
}

// walk: mostly one of the latest walks.
func (d drawer) walk() int {
	l := walksOf(d.store)
	if len(l) == 0 || d.Intn(20) == 0 {
		return d.handle(d.store.Hold().Maps)
	}
	return l[len(l)-1-d.Intn(min(4, len(l)))]
}

// pair: a key and an elem for the map behind the handle; now and then of a wrong width.
func (d drawer) pair(h int) (string, string) {
	l := api.Layout{Key: 1, Elem: 1}
	for _, k := range d.store.Hold().Maps {
		if k.Handle == h {
			l = k.Root.Layout
		}
	}
	switch d.Intn(60) {
	case 0:
		l.Key++
	case 1:
		l.Elem++
	case 2:
		l.Key, l.Elem = 0, 0
	}
	return key(l.Key, d.Intn(64)), key(l.Elem, d.Intn(256))
}

// release: some handles; more than one of them is wrong now and then, or one stands twice.
func (d drawer) release() api.Cmd {
	c := api.Cmd{Op: api.OpRelease}
	for range d.Intn(4) {
		if d.Intn(4) == 0 {
			c.Hs = append(c.Hs, d.handle(d.store.Hold().Maps))
		} else {
			c.Hs = append(c.Hs, d.walk())
		}
	}
	return c
}

// story: a drawn script, and what it is called.
type story struct {
	what  string
	limit int
	over  []api.Over
	cmds  []api.Cmd
}

func (s story) text() string { return printed(s.limit, s.over, s.cmds...) }

func (s story) script() api.Script { return api.Script{Limit: s.limit, Over: s.over, Cmds: s.cmds} }

// stories: drawn scripts of so many commands, with hashes of every kind, with much memory and with little.
func stories(t testing.TB, seeds, commands int) []story {
	t.Helper()
	var l []story
	for _, k := range hashes {
		for _, limit := range []int{1500, 6000, 40000, api.MaxLimit} {
			for seed := range seeds {
				d := draws(t, int64(len(l)), limit, overs(k.of)...)
				l = append(l, story{fmt.Sprint(k.name, ", limit ", limit, ", seed ", seed), limit, overs(k.of), d.script(commands)})
			}
		}
	}
	return l
}

// answers: the answers that a text of lines tells.
func answers(t testing.TB, lines string) []api.Answer {
	t.Helper()
	var l []api.Answer
	for line := range strings.Lines(lines) {
		told, ended := strings.CutSuffix(line, "\n")
		a, e := script.Read(told)
		if e != api.OK || !ended {
			t.Fatalf("P22.2: %q is no answer's line, or has no end", line)
		}
		l = append(l, a)
	}
	return l
}
