package larder_test

import (
	"strings"
	"testing"

	"larder/api"
	"larder/larder"
)

// putsOf: the lines that put the letters from one to another, each behind a bar.
func putsOf(from, to rune) string {
	var l strings.Builder
	for c := from; c <= to; c++ {
		l.WriteString("| put 1 '" + string(c) + " 'x ")
	}
	return l.String()
}

// zeroHashes: the lines that give the letters from one to another the hash 0, each behind a bar.
func zeroHashes(from, to rune) string {
	var l strings.Builder
	for c := from; c <= to; c++ {
		l.WriteString("| hash '" + string(c) + " 0 ")
	}
	return l.String()
}

const threeKeys = "limit 65536 | hash 'a 0 | hash 'b 0x8000000000000000 | hash 'c 0 | make 0 0 1 1 1 1 16 | put 1 'a 'x | put 1 'b 'x | put 1 'c 'x | open 1 0 0 | next 2"

// TestExamples: P22.2: the document's examples 1 to 8 of the whole.
func TestExamples(t *testing.T) {
	for i, c := range []struct{ in, out string }{
		{"limit 4096 | make 0 0 1 1 1 1 16 | put 1 'a 'x | put 1 'a 'y | get 1 'a | get 1 'b | len 1", "make 1 | put new | put old | get yes 79 | get no | len 1"},
		{"limit 4096 | get 1 'a | make 0 0 1 1 1 1 16 | next 1 | release 1 1 | release 1 2 | release 1 | get 1 'a | make 0 0 1 1 1 1 16", "get error 140 | make 1 | next error 142 | release error 143 | release error 140 | release | get error 141 | make 2"},
		{"limit 4096 | make 0 0 1 1 1 1 | make 0 0 0 1 1 1 16 | make 0 0 1 129 3 1 16 | make 0 0 6 1 4 1 16 | make 0 -1 1 1 1 1 24 | make 0 4097 1 1 1 1 16 | make 0 8 1 1 1 1 16", "make error 30 | make error 31 | make error 32 | make error 33 | make error 34 | make error 120 | make 1"},
		{"limit 300 | make 0 0 1 1 1 1 16 | live | put 1 'a 'x | live " + putsOf('b', 'i') + "| len 1 | put 1 'a 'z | live", "make 1 | live 64 | put new | live 256 " + strings.Repeat("| put new ", 7) + "| put error 22 | len 8 | put old | live 256"},
		{threeKeys + "| delete 1 'b | put 1 'b 'y | next 2 | next 2 | next 2", "make 1 | put new | put new | put new | open 2 | next pair 61 78 | delete yes | put new | next pair 63 78 | next done | next done"},
		{threeKeys + "| clear 1 7 | put 1 'b 'x | next 2 | len 1", "make 1 | put new | put new | put new | open 2 | next pair 61 78 | clear | put new | next done | len 1"},
		{"limit 65536 " + zeroHashes('a', 'o') + "| make 0 0 1 1 1 1 16 " + putsOf('a', 'o') + "| slots 1 | probes 1 'o | len 1", "make 1 " + strings.Repeat("| put new ", 15) + "| slots 128 | probes 2 | len 15"},
		{"limit 65536 | make 5 0 1 1 1 1 16 | put 1 'a 'x | clone 1 | put 2 'a 'y | get 1 'a | release 1 | get 2 'a | audit | release 2 | live", "make 1 | put new | clone 2 | put old | get yes 78 | release | get yes 79 | audit fine | release | live 0"},
	} {
		if out := ran(t, text(c.in)); out != text(c.out) {
			t.Errorf("example %d: %q, want %q", i+1, out, text(c.out))
		}
	}
}

// TestExampleDump: P22.3: the dump of example 1.
func TestExampleDump(t *testing.T) {
	in, want := text("limit 4096 | make 0 0 1 1 1 1 16 | put 1 'a 'x | put 1 'a 'y | get 1 'a | get 1 'b | len 1"), text("limit 2097152 | make 0x0 0 1 1 1 1 16 | put 1 61 79")
	if d := dumped(t, in); d != want {
		t.Errorf("%q, want %q", d, want)
	}
}

// TestExampleResumed: P22.4: example 9.
func TestExampleResumed(t *testing.T) {
	img := saved(t, text("limit 65536 | hash 'a 0 | hash 'b 0x8000000000000000 | hash 'c 0 | make 0 0 1 1 1 1 16 | put 1 'a 'x"))
	out, want := resumed(t, img, text("limit 0 | get 1 'a | get 1 'b | make 0 0 1 1 1 1 16")), text("get yes 78 | get no | make 2")
	if out != want {
		t.Errorf("%q, want %q", out, want)
	}
}

// TestExampleRefusals: P22.2: example 10.
func TestExampleRefusals(t *testing.T) {
	for _, c := range []struct {
		in   string
		line int
		want api.Errno
	}{{"limit 64 | put 1 'a", 2, api.ErrText}, {"limit 2097153", 0, api.ErrLimit}, {"limit 5 | hash - 5", 0, api.ErrLong}} {
		if out, line, e := larder.Run(text(c.in)); out != "" || line != c.line || e != c.want {
			t.Errorf("%q: %q, line %d, error %d, want line %d, error %d", c.in, out, line, e, c.line, c.want)
		}
	}
}
