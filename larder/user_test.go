package larder_test

import (
	"fmt"
	"maps"
	"math"
	"slices"
	"strings"
	"testing"

	"larder/api"
	"larder/crew"
	"larder/image"
	"larder/larder"
)

// looked: behind each command stand an audit and the live bytes.
func looked(s story) story {
	var l []api.Cmd
	for _, c := range s.cmds {
		l = append(l, c, api.Cmd{Op: api.OpAudit}, api.Cmd{Op: api.OpLive})
	}
	s.cmds = l
	return s
}

// TestFiniteMaps: U1, U2, U5, U6, U7: drawn texts by Run, with much memory and with little: the answers are those of finite maps, the audit finds nothing, and no more bytes are live than may be; when all is released there are none.
func TestFiniteMaps(t *testing.T) {
	met := map[string]int{}
	for _, s := range stories(t, 6, 300) {
		f := followed(t, looked(s))
		for what, n := range f.met {
			met[what] += n
		}
		whole := s.text()
		for h := range f.maps {
			whole += fmt.Sprintf("release %d\n", h)
		}
		for _, h := range walksOf(behind(t, s.limit, s.over, s.cmds...)) {
			whole += fmt.Sprintf("next %d\n", h)
		}
		l := strings.Split(strings.TrimSuffix(ran(t, whole+"live\naudit\n"), "\n"), "\n")
		if end := l[len(l)-2:]; end[0] != "live 0" || end[1] != "audit fine" {
			t.Fatalf("U5: %s: behind the release of all maps: %q", s.what, end)
		}
		for _, gone := range l[len(s.cmds)+len(f.maps) : len(l)-2] {
			if gone != "next error 141" {
				t.Fatalf("U1: %s: a walk of a released map: %q", s.what, gone)
			}
		}
	}
	for _, op := range []int{api.OpMake, api.OpGet, api.OpPut, api.OpDelete, api.OpLen, api.OpClear, api.OpClone, api.OpOpen, api.OpNext, api.OpRelease, api.OpLive, api.OpProbes, api.OpSlots, api.OpAudit} {
		if n := met[fmt.Sprint("op ", op, ", error ", api.OK)]; n < 100 {
			t.Errorf("the test is too tame: the command %d is done %d times", op, n)
		}
	}
	for _, what := range []string{"op 1, error 22", "op 1, error 30", "op 1, error 34", "op 1, error 120", "op 3, error 22", "op 3, error 61", "op 3, error 62", "op 3, error 140", "op 3, error 141", "op 3, error 142", "op 7, error 22", "op 9, error 142", "op 10, error 143", "pairs", "done"} {
		if met[what] < 10 {
			t.Errorf("the test is too tame: %s: %d", what, met[what])
		}
	}
}

// TestErrorsChangeNothing: U1: commands that are refused, each by its fixed error, leave all that follows as it was without them, the next handle and the walks too.
func TestErrorsChangeNothing(t *testing.T) {
	wrong := []struct{ line, answer string }{
		{"make 0 0 1 1 1 1", "make error 30"}, {"make 0 0 0 1 1 1 16", "make error 31"}, {"make 0 0 1 129 1 1 16", "make error 32"}, {"make 0 0 6 1 4 1 16", "make error 33"}, {"make 0 0 1 1 1 1 17", "make error 34"}, {"make 0 -1 1 1 1 1 16", "make error 120"}, {"make 0 4097 1 1 1 1 16", "make error 120"},
		{"get 0 'a", "get error 140"}, {"get -1 'a", "get error 140"}, {"put 999 'a 'x", "put error 140"}, {"put 1 'ab 'x", "put error 61"}, {"put 1 'a 'xx", "put error 62"}, {"put 1 'ab 'xx", "put error 61"}, {"put 999 'ab 'xx", "put error 140"}, {"put 2 'ab 'xx", "put error 142"}, {"put 3 'ab 'xx", "put error 141"}, {"delete 1 -", "delete error 61"}, {"get 1 'ab", "get error 61"}, {"probes 1 'ab", "probes error 61"},
		{"len 2", "len error 142"}, {"clear 3 7", "clear error 141"}, {"clone 2", "clone error 142"}, {"clone 3", "clone error 141"}, {"open 2 0 0", "open error 142"}, {"open 999 0 0", "open error 140"}, {"next 1", "next error 142"}, {"next 3", "next error 141"}, {"next -9223372036854775808", "next error 140"}, {"slots 9223372036854775807", "slots error 140"},
		{"release 1 1", "release error 143"}, {"release 1 999", "release error 140"}, {"release 2 3", "release error 141"}, {"release 2 2 999", "release error 140"},
	}
	begin := text("limit 65536 | make 7 0 1 1 1 1 16" + putsOf('a', 'k') + "| open 1 3 5 | make 0 0 1 1 1 1 16 | release 3 | next 2")
	lines := strings.Split(strings.TrimSuffix(text("put 1 'z 'y | next 2 | get 1 'a | delete 1 'b | next 2 | clone 1 | open 1 1 1 | next 5 | make 1 0 1 1 1 1 16 | slots 1 | probes 1 'z | live | clear 1 9 | next 2 | len 4 | release 1 | live | audit"), "\n"), "\n")
	was := strings.SplitAfter(ran(t, begin+strings.Join(lines, "\n")), "\n")
	at := len(was) - 1 - len(lines) // how many answers the beginning has
	for _, w := range wrong {
		with, want := begin, strings.Join(was[:at], "")
		for i, line := range lines[:12] { // ahead of the clear and the release, which would change the errors
			with += w.line + "\n" + line + "\n"
			want += w.answer + "\n" + was[at+i]
		}
		if out := ran(t, with); out != want {
			t.Errorf("U1: with %q between: %q, want %q", w.line, out, want)
		}
	}
}

// TestHashIsNotSeen: U3: one script under several hashes, seeds and draws: the answers of get, put, delete, len, clear and clone are the same; a walk over a map that does not change yields the same pairs in some order.
func TestHashIsNotSeen(t *testing.T) {
	for seed := range int64(6) {
		cmds := draws(t, seed, api.MaxLimit).script(250)
		cmds = slices.DeleteFunc(cmds, func(c api.Cmd) bool { return c.Op == api.OpNext })
		f := followed(t, story{"U3", api.MaxLimit, nil, cmds})
		var walks []api.Cmd
		for h, m := range f.maps {
			walks = append(walks, api.Cmd{Op: api.OpOpen, H: h})
			for range len(m.pairs) + 1 {
				walks = append(walks, api.Cmd{Op: api.OpNext, H: f.next})
			}
			f.next++
		}
		orders := map[string]int{}
		var first [2][]string
		for i, k := range hashes {
			told, pairs := seenOf(t, overs(k.of), uint64(i), cmds, walks)
			if i == 0 {
				first[0], first[1] = told, slices.Sorted(slices.Values(pairs))
			}
			if !slices.Equal(told, first[0]) {
				t.Fatalf("U3: seed %d, %s: get, put, delete, len, clear and clone answer otherwise", seed, k.name)
			}
			if !slices.Equal(slices.Sorted(slices.Values(pairs)), first[1]) {
				t.Fatalf("U3: seed %d, %s: the walks yield other pairs", seed, k.name)
			}
			orders[strings.Join(pairs, "")]++
		}
		if len(orders) == 1 {
			t.Errorf("the test is too tame: with every hash the walks go in the same order")
		}
	}
}

// seenOf: the script under these overrides, with other seeds and draws: the lines of get, put, delete, len, clear and clone; and what the walks at its end yield.
func seenOf(t *testing.T, over []api.Over, salt uint64, cmds, walks []api.Cmd) (told, pairs []string) {
	t.Helper()
	all := slices.Concat(cmds, walks)
	for i, c := range all {
		switch c.Op {
		case api.OpMake, api.OpClear:
			all[i].U = c.U*salt + 3*salt
		case api.OpOpen:
			all[i].U, all[i].V = math.MaxUint64/(1+c.U*salt), salt*7+uint64(i)
		}
	}
	lines := strings.SplitAfter(ran(t, printed(api.MaxLimit, over, all...)), "\n")
	for i, c := range all {
		switch c.Op {
		case api.OpGet, api.OpPut, api.OpDelete, api.OpLen, api.OpClear, api.OpClone:
			told = append(told, lines[i])
		case api.OpNext:
			pairs = append(pairs, lines[i])
		}
	}
	return told, pairs
}

// TestMapsApart: U4: what is done to a map is seen in no answer of another, its clone among them: slots, probes and walks too.
func TestMapsApart(t *testing.T) {
	for _, k := range hashes {
		for seed := range int64(6) {
			begin := append(puts(1, 20, plain...), api.Cmd{Op: api.OpClone, H: 1}, api.Cmd{Op: api.OpOpen, H: 1, U: 1}, api.Cmd{Op: api.OpOpen, H: 2, V: 5})
			d := draws(t, seed, 1<<20)
			one, two := slices.Clone(begin), slices.Clone(begin)
			var ofOne []int // where the commands of the first map stand among both
			for n := range 150 {
				c := apart(d, 1+n%2)
				two = append(two, c)
				if n%2 == 0 {
					one = append(one, c)
					ofOne = append(ofOne, len(two)-1)
				}
			}
			alone, both := strings.SplitAfter(ran(t, printed(1<<20, overs(k.of), one...)), "\n"), strings.SplitAfter(ran(t, printed(1<<20, overs(k.of), two...)), "\n")
			for i, at := range ofOne {
				if alone[len(begin)+i] != both[at] {
					t.Fatalf("U4: %s, seed %d: %+v answers %q, and alone %q", k.name, seed, two[at], both[at], alone[len(begin)+i])
				}
			}
		}
	}
}

// apart: a command for the map of that handle, which is 1 or 2, or for its walk, 3 or 4.
func apart(d drawer, h int) api.Cmd {
	switch n := d.Intn(20); {
	case n == 0:
		return api.Cmd{Op: api.OpClear, H: h, U: d.word()}
	case n < 4:
		return api.Cmd{Op: api.OpNext, H: h + 2}
	case n < 8:
		return api.Cmd{Op: []int{api.OpSlots, api.OpLen}[d.Intn(2)], H: h}
	case n < 14:
		return api.Cmd{Op: []int{api.OpGet, api.OpDelete, api.OpProbes}[d.Intn(3)], H: h, Key: key(1, d.Intn(40))}
	}
	return api.Cmd{Op: api.OpPut, H: h, Key: key(1, d.Intn(40)), Elem: key(1, d.Intn(256))}
}

// TestOneTable: U6: where all hashes are equal all keys lie in one table: a key is looked for in no more groups than that has; and a walk over a map that changes no more is done within as many steps as there are keys, and one.
func TestOneTable(t *testing.T) {
	for _, hash := range []uint64{0, math.MaxUint64, 1 << 63} {
		var in strings.Builder
		for n := range api.MaxOver {
			fmt.Fprintf(&in, "hash %x %d\n", key(1, n), hash)
		}
		in.WriteString("make 0 0 1 1 1 1 16\n")
		for n := range api.MaxOver {
			fmt.Fprintf(&in, "put 1 %x 'x\nprobes 1 %x\nprobes 1 %x\n", key(1, n), key(1, n), key(1, 0))
		}
		in.WriteString("open 1 5 9\n" + strings.Repeat("next 2\n", api.MaxOver+1))
		l := answers(t, ran(t, "limit 2097152\n"+in.String()))[1:]
		slots := 8
		for n := range api.MaxOver {
			for slots/8*7 < n+1 && (slots > 8 || n == 8) { // a table of so many slots holds 7 keys in 8 slots; a small block holds 8
				slots *= 2
			}
			for _, a := range l[3*n+1 : 3*n+3] {
				if a.N < 1 || a.N > slots/8 {
					t.Fatalf("U6: %d keys of the hash %#x: %d groups are looked at, one table has %d", n+1, hash, a.N, slots/8)
				}
			}
		}
		steps := l[3*api.MaxOver+1:]
		if last := steps[len(steps)-1]; last != (api.Answer{Op: api.OpNext}) {
			t.Errorf("U6: a walk over %d keys: the step behind them answers %+v", api.MaxOver, last)
		}
	}
}

// TestBlocks: U7: the blocks of chapter 12's examples 1 to 3, at the offsets and with the classes that it says; a walk that stands on the small block keeps it.
func TestBlocks(t *testing.T) {
	in := "limit 65536"
	for n, c := range "abcdefghi" {
		in += fmt.Sprintf("| hash '%c %d", c, n)
	}
	bare := in + "| make 7 0 1 1 1 1 16"
	for _, c := range []struct {
		what, in string
		live     int
		parts    []api.Part
	}{
		{"bare", bare, 64, []api.Part{{Off: 16, Size: 64, Live: true}}},
		{"small", bare + putsOf('a', 'h'), 256, []api.Part{{Off: 16, Size: 64, Live: true}, {Off: 80, Size: 192, Live: true}}},
		{"wide", bare + putsOf('a', 'i'), 528, []api.Part{{Off: 16, Size: 64, Live: true}, {Off: 80, Size: 192}, {Off: 272, Size: 64, Live: true}, {Off: 336, Size: 384, Live: true}, {Off: 720, Size: 16, Live: true}}},
	} {
		if out := ran(t, text(c.in+"| live | audit")); !strings.HasSuffix(out, fmt.Sprintf("live %d\naudit fine\n", c.live)) {
			t.Errorf("U7: %s: %q, want live %d", c.what, out, c.live)
		}
		s, e := image.Load(saved(t, text(c.in)))
		if e != api.OK {
			t.Fatal(e)
		}
		if l := s.Arena().Parts(); !slices.Equal(l, c.parts) {
			t.Errorf("U7: %s: the blocks are %v, want %v", c.what, l, c.parts)
		}
	}
	walked := ran(t, text(bare+putsOf('a', 'h')+"| open 1 0 0 | next 2 "+putsOf('i', 'i')+"| live | audit | release 2 | live"))
	if want := text("live 720 | audit fine | release | live 528"); !strings.HasSuffix(walked, want) {
		t.Errorf("U7: a walk on the small block: %q, want %q at its end", walked, want)
	}
}

// TestReadersAtOnce: U8: several readers of the store that Save keeps get, at once, the answers that Resume tells each of them alone.
func TestReadersAtOnce(t *testing.T) {
	for _, s := range stories(t, 1, 150) {
		img := saved(t, s.text())
		shared, e := image.Load(img)
		if e != api.OK {
			t.Fatal(e)
		}
		next := shared.Hold().Next
		d := drawer{draws(t, 5, 0).Rand, shared}
		var jobs [][]api.Cmd
		for range 8 {
			jobs = append(jobs, d.job(60))
		}
		all, e := crew.Read(shared, jobs...)
		if e != api.OK {
			t.Fatalf("crew.Read: error %d", e)
		}
		for i, job := range jobs {
			alone := slices.Clone(job)
			for n := range alone { // alone, a job's walks have the next handles
				if alone[n].Op == api.OpNext {
					alone[n].H = next - 1 - alone[n].H
				}
			}
			want := answers(t, resumed(t, img, printed(0, nil, alone...)))
			for n, a := range all[i] {
				if a.Op == api.OpOpen && a.Err == api.OK {
					a.N = next - 1 - a.N
				}
				if a != want[n] {
					t.Fatalf("U8: %s, job %d: %+v answers %+v, and alone %+v", s.what, i, job[n], a, want[n])
				}
			}
		}
	}
}

// job: so many commands of a reader: its walks are named by -1, -2, ..
func (d drawer) job(n int) []api.Cmd {
	kept, before := d.store.Hold().Maps, d.store.Hold().Next
	walks := 0
	var l []api.Cmd
	for range n {
		h := d.handle(kept)
		if h >= before { // what alone would be a walk's handle
			h = 0
		}
		k, _ := d.pair(h)
		switch c := d.Intn(6); {
		case c == 0:
			l = append(l, api.Cmd{Op: api.OpOpen, H: h, U: d.word(), V: d.word()})
			if slices.ContainsFunc(kept, func(k api.Kept) bool { return k.Handle == h }) {
				walks++
			}
		case c < 3 && walks > 0:
			l = append(l, api.Cmd{Op: api.OpNext, H: -1 - d.Intn(walks)})
		case c < 5:
			l = append(l, api.Cmd{Op: []int{api.OpGet, api.OpProbes}[c%2], H: h, Key: k})
		default:
			l = append(l, api.Cmd{Op: []int{api.OpLen, api.OpSlots}[d.Intn(2)], H: h})
		}
	}
	return l
}

// TestRecovered: U10: of a log that is cut off anywhere, what Replay tells, run, holds just what the commands leave that were written whole.
func TestRecovered(t *testing.T) {
	s := story{"U10", 1 << 16, overs(hashes[1].of)[:5], append(puts(1, 14, plain...), api.Cmd{Op: api.OpClone, H: 1}, api.Cmd{Op: api.OpDelete, H: 1, Key: key(1, 3)}, api.Cmd{Op: api.OpClear, H: 2, U: 5}, api.Cmd{Op: api.OpPut, H: 2, Key: "q", Elem: "r"}, api.Cmd{Op: api.OpRelease, Hs: []int{1}})}
	log := logged(t, s.text())
	told := answers(t, ran(t, s.text()))
	last := 0
	for cut := len(logged(t, printed(s.limit, s.over))); cut <= len(log); cut++ {
		n, dump, e := larder.Replay(log[:cut])
		if e != api.OK || n < last || n > last+1 {
			t.Fatalf("U10: cut off at %d: %d commands behind %d, error %d", cut, n, last, e)
		}
		last = n
		f := newFinite(t, fmt.Sprint("U10: cut off at ", cut), s.limit)
		f.followAll(s.cmds[:n], told[:n])
		asks, want := "", ""
		for at, h := range slices.Sorted(maps.Keys(f.maps)) {
			for k := range 20 {
				asks += fmt.Sprintf("get %d %x\n", at+1, key(1, k))
				if v, there := f.maps[h].pairs[key(1, k)]; there {
					want += fmt.Sprintf("get yes %x\n", v)
				} else {
					want += "get no\n"
				}
			}
		}
		out := ran(t, dump+asks)
		if !strings.HasSuffix(out, want) {
			t.Fatalf("U10: cut off at %d, %d commands: %q, want %q at its end", cut, n, out, want)
		}
	}
	if last != len(s.cmds) {
		t.Errorf("U10: the whole log tells %d commands, want %d", last, len(s.cmds))
	}
}
