package larder_test

import (
	"fmt"
	"strings"
	"testing"

	"larder/api"
	"larder/larder"
)

// dumps: the dump of a text, and that the dump of it is the same again.
func dumps(t *testing.T, what, in, want string) {
	t.Helper()
	d := dumped(t, in)
	if d != want {
		t.Fatalf("P22.3: %s: Dump(%.400q) = %.600q, want %.600q", what, in, d, want)
	}
	if again := dumped(t, d); again != d {
		t.Fatalf("P22.3: %s: the dump of the dump %.400q is %.400q", what, d, again)
	}
}

// TestDumps: P22.3: what is told of the maps, and what is not.
func TestDumps(t *testing.T) {
	for _, c := range []struct{ what, in, out string }{
		{"nothing", "limit 0", "limit 2097152"},
		{"a greater limit is not told", "limit 2097152 | live", "limit 2097152"},
		{"a bare map", "limit 64 | make 18446744073709551615 0 1 128 1 8 1024", "limit 2097152 | make 0xffffffffffffffff 0 1 128 1 8 1024"},
		{"each number of the descriptor", "limit 4096 | make 1 0 6 8 2 4 64 | make 2 0 8 12 8 4 512", "limit 2097152 | make 0x1 0 6 8 2 4 64 | make 0x2 0 8 12 8 4 512"},
		{"the hint", "limit 65536 | make 3 100 1 1 1 1 16 | make 3 8 1 1 1 1 16", "limit 2097152 | make 0x3 0 1 1 1 1 16 | make 0x3 0 1 1 1 1 16"},
		{"the elem of the moment", "limit 4096 | make 0 0 1 1 1 1 16 | put 1 'a 'x | put 1 'a 'y", "limit 2097152 | make 0x0 0 1 1 1 1 16 | put 1 61 79"},
		{"a deleted key", "limit 4096 | make 0 0 1 1 1 1 16 | put 1 'a 'x | put 1 'b 'y | delete 1 'a", "limit 2097152 | make 0x0 0 1 1 1 1 16 | put 1 62 79"},
		{"elems without bytes", "limit 4096 | make 0 0 1 0 1 1 16 | put 1 'b - | put 1 'a -", "limit 2097152 | make 0x0 0 1 0 1 1 16 | put 1 61 - | put 1 62 -"},
		{"the keys byte by byte", "limit 4096 | make 0 0 2 1 1 1 16 | put 1 ff00 01 | put 1 00ff 02 | put 1 7fff 03 | put 1 8000 04 | put 1 6142 05 | put 1 6161 06 | put 1 0000 07", "limit 2097152 | make 0x0 0 2 1 1 1 16 | put 1 0000 07 | put 1 00ff 02 | put 1 6142 05 | put 1 6161 06 | put 1 7fff 03 | put 1 8000 04 | put 1 ff00 01"},
		{"the seed behind a clear", "limit 4096 | make 9 0 1 1 1 1 16 | put 1 'a 'x | clear 1 4 | clear 1 5 | put 1 'b 'x", "limit 2097152 | make 0x5 0 1 1 1 1 16 | put 1 62 78"},
		{"a clone's seed, ahead of a clear and behind it", "limit 4096 | make 9 0 1 1 1 1 16 | clone 1 | clear 1 4 | clone 1 | clear 1 7 | clear 3 8 | clone 2", "limit 2097152 | make 0x7 0 1 1 1 1 16 | make 0x9 0 1 1 1 1 16 | make 0x8 0 1 1 1 1 16 | make 0x9 0 1 1 1 1 16"},
		{"released maps and walks between", "limit 4096 | make 1 0 1 1 1 1 16 | open 1 0 0 | make 2 0 1 1 1 1 16 | put 3 'a 'x | open 3 0 0 | next 4 | make 3 0 1 1 1 1 16 | release 1 | make 4 0 1 1 1 1 16 | put 6 'b 'y | put 5 'c 'z", "limit 2097152 | make 0x2 0 1 1 1 1 16 | put 1 61 78 | make 0x3 0 1 1 1 1 16 | put 2 63 7a | make 0x4 0 1 1 1 1 16 | put 3 62 79"},
		{"all is released", "limit 4096 | hash 'a 1 | make 1 0 1 1 1 1 16 | put 1 'a 'x | open 1 0 0 | release 1", "limit 2097152 | hash 61 0x1"},
		{"refused commands", "limit 64 | make 1 0 1 1 1 1 16 | make 2 0 1 1 1 1 16 | put 1 'a 'x | put 2 'a 'x | clone 1", "limit 2097152 | make 0x1 0 1 1 1 1 16"},
		{"the overrides in their order", "limit 4096 | hash 'zz 5 | hash 'a 0xFF | hash 'b 255 | hash '0 0", "limit 2097152 | hash 7a7a 0x5 | hash 61 0xff | hash 62 0xff | hash 30 0x0"},
	} {
		dumps(t, c.what, text(c.in), text(c.out))
	}
}

// TestDumpManyMaps: P22.3: more than ten maps, and handles of more than one digit: the rising order of the numbers.
func TestDumpManyMaps(t *testing.T) {
	in, want := "limit 65536", "limit 2097152"
	n := 0
	for h := 1; h <= 240; h += 2 { // a map, and a walk over it
		in += fmt.Sprintf("| make %d 0 1 1 1 1 16 | open %d 0 0", h, h)
		if h%6 == 1 {
			n++
			in += fmt.Sprintf("| put %d 'k 'v | next %d", h, h+1)
			want += fmt.Sprintf("| make %#x 0 1 1 1 1 16 | put %d 6b 76", h, n)
		} else if h%6 == 3 {
			n++
			want += fmt.Sprintf("| make %#x 0 1 1 1 1 16", h)
		} else {
			in += fmt.Sprint("| release ", h)
		}
	}
	dumps(t, "many maps", text(in), text(want))
}

// TestDumpOverrides: P22.3: as many overrides as there may be, long ones, and not in the order of their keys.
func TestDumpOverrides(t *testing.T) {
	in := printed(77, longOvers())
	dumps(t, "overrides", in, strings.Replace(in, "limit 77\n", "limit 2097152\n", 1))
}

// TestDrawnDumps: P22.3: drawn scripts: the dump is that of finite maps which follow the answers.
func TestDrawnDumps(t *testing.T) {
	met := map[string]int{}
	for _, s := range stories(t, 8, 250) {
		f := followed(t, s)
		dumps(t, s.what, s.text(), f.dump(s.over))
		met["maps"] += len(f.maps)
		met["walks"] += len(f.walks)
		for _, m := range f.maps {
			met["pairs"] += len(m.pairs)
		}
	}
	if met["maps"] < 100 || met["walks"] < 100 || met["pairs"] < 1000 {
		t.Errorf("the test is too tame: %v", met)
	}
}

// TestDumpHoldsAll: P22.3: a dump that is run holds the same pairs, behind other handles.
func TestDumpHoldsAll(t *testing.T) {
	for _, s := range stories(t, 2, 250) {
		f := followed(t, s)
		d := dumped(t, s.text())
		asks, n := "", 0
		var want strings.Builder
		for h := 1; h < f.next; h++ {
			m := f.maps[h]
			if m == nil {
				continue
			}
			n++
			asks += fmt.Sprintf("len %d\n", n)
			fmt.Fprintf(&want, "len %d\n", len(m.pairs))
			for k, v := range m.pairs {
				asks += fmt.Sprintf("get %d %s\n", n, bytesWord(k))
				fmt.Fprintf(&want, "get yes %s\n", bytesWord(v))
			}
		}
		out := ran(t, d+asks)
		if ahead := ran(t, d); out != ahead+want.String() {
			t.Fatalf("P22.3: %s: behind its dump: %.400q, want %.400q", s.what, out[len(ahead):], want.String())
		}
	}
}

// TestGreatDump: P22.3: a map of many tables; and a dump that is longer than a text may be, which is told all the same.
func TestGreatDump(t *testing.T) {
	f := newFinite(t, "many keys", api.MaxLimit)
	s := story{"many keys", api.MaxLimit, nil, puts(1, 9000, 2, 4, 1, 4, 64)}
	f.followAll(s.cmds, answers(t, ran(t, s.text())))
	dumps(t, s.what, s.text(), f.dump(nil))

	var in strings.Builder
	in.WriteString("limit 2097152\nmake 0 0 2 120 1 1 16\n")
	want := "limit 2097152\nmake 0x0 0 2 120 1 1 16\n"
	elem := strings.Repeat("e", 120)
	for n := range 5000 {
		fmt.Fprintf(&in, "put 1 %04x '%s\n", n, elem)
		want += fmt.Sprintf("put 1 %04x %x\n", n, elem)
	}
	if d := dumped(t, in.String()); d != want || len(d) <= api.MaxText {
		t.Fatalf("P22.3: a dump of %d bytes, want %d, more than %d", len(d), len(want), api.MaxText)
	}
	if out, line, e := larder.Dump(want); out != "" || line != 0 || e != api.ErrText {
		t.Errorf("P22.3: a text of %d bytes: %.80q, line %d, error %d", len(want), out, line, e)
	}
}
