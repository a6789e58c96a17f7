package larder_test

import (
	"fmt"
	"math"
	"strings"
	"testing"

	"larder/api"
	"larder/larder"
	"larder/script"
)

// textCalls: the calls that are handed a text alone: what they answer, told as a text.
var textCalls = []struct {
	name string
	call func(text string) (string, int, api.Errno)
}{
	{"Run", larder.Run},
	{"Dump", larder.Dump},
	{"Save", func(text string) (string, int, api.Errno) {
		b, line, e := larder.Save(text)
		return told(b), line, e
	}},
	{"Log", func(text string) (string, int, api.Errno) {
		b, line, e := larder.Log(text)
		return told(b), line, e
	}},
}

// told: bytes as a text; nil is another than no bytes.
func told(b []byte) string {
	if b == nil {
		return ""
	}
	return "bytes:" + string(b)
}

// refused: each of the calls refuses the text, at that line, by that error.
func refused(t *testing.T, what, text string, line int, want api.Errno) {
	t.Helper()
	for _, f := range textCalls {
		if out, at, e := f.call(text); out != "" || at != line || e != want {
			t.Errorf("P22.2: %s: %s(%.80q): %.80q, line %d, error %d, want line %d, error %d", what, f.name, text, out, at, e, line, want)
		}
	}
}

// TestRefused: P22.2: the text's own refusals, each with its line.
func TestRefused(t *testing.T) {
	for _, c := range []struct {
		in   string
		line int
		want api.Errno
	}{
		{"", 1, api.ErrText},
		{"\n\n# nothing\n", 4, api.ErrText},
		{"len 1\nlimit 5\n", 1, api.ErrText},
		{"limit 5\nlimit 5\n", 2, api.ErrText},
		{"limit 5\nlen 1\nhash 61 1\n", 3, api.ErrText},
		{"limit 64\nput 1 'a\n", 2, api.ErrText},
		{"limit 64\n\n# two\nlen 1\nnothing 1\nlen x\n", 5, api.ErrText},
		{"limit 64\nlen 1\nlen 2\nlen 1 2", 4, api.ErrText},
		{"limit 9223372036854775808\n", 1, api.ErrRange},
		{"limit 5\nget 99999999999999999999 -\n", 2, api.ErrRange},
		{"limit 5\nhash 61 18446744073709551616\n", 2, api.ErrRange},
		{"limit 5\nclear 1 0x10000000000000000\nlen x\n", 2, api.ErrRange},
	} {
		refused(t, "the text", c.in, c.line, c.want)
		// An image that would be refused comes behind the text.
		noResume(t, "the text", nil, c.in, c.line, c.want)
	}
}

// TestRefusedBeginnings: P22.2: the limit, then the overrides; all without a line, and behind the text's own refusals.
func TestRefusedBeginnings(t *testing.T) {
	for _, c := range beginnings() {
		whole := printed(c.limit, c.over, api.Cmd{Op: api.OpLive})
		if c.want == api.OK {
			if out := ran(t, whole); out != "live 0\n" {
				t.Errorf("P22.2: %s: %q", c.what, out)
			}
		} else {
			refused(t, c.what, whole, 0, c.want)
		}
		refused(t, c.what+", a line that is wrong", whole+"live 1\n", 3+len(c.over), api.ErrText)
		refused(t, c.what+", a number that is too great", whole+"live\nlen 9223372036854775808", 4+len(c.over), api.ErrRange)
	}
}

// TestLongText: P22.2: a text may have MaxText bytes; one more, and it is refused without a line, whatever stands in it.
func TestLongText(t *testing.T) {
	in := "limit 4096\nlive\n"
	whole := in + "#" + strings.Repeat("x", api.MaxText-len(in)-1)
	if out := ran(t, whole); out != "live 0\n" {
		t.Errorf("P22.2: a text of %d bytes: %q", len(whole), out)
	}
	refused(t, "a byte too many", whole+"x", 0, api.ErrText)
	refused(t, "a byte too many, and a wrong line", "x"+whole, 0, api.ErrText)
	noResume(t, "a byte too many", nil, whole+"x", 0, api.ErrText)
}

// TestLines: P22.2: the line of each command's answer, of every form, and its end.
func TestLines(t *testing.T) {
	in := text("limit 4096 | make 0x7 0 2 1 1 1 16 | make 1 0 1 0 1 1 32 | put 1 6162 ff | put 1 'ab 00 | put 2 00 - | put 2 'ab - | put 2 'a 'b | get 1 'ab | get 1 'xx | get 2 00 | get 2 - | delete 1 'xx | delete 1 'ab | len 1 | len 2 | len 3" +
		"| clone 2 | open 2 5 0x5 | open 4 0 0 | next 4 | next 4 | next 2 | clear 1 0 | clear 4 0 | release 3 | release | release 4 3 | release 1 1 | slots 1 | slots 2 | probes 1 'ab | probes 2 'a | probes 2 'ab | live | audit | make 0 0 | make 0 5000 1 1 1 1 16 | make 0 4000 1 1 1 1 16 | clone 99")
	want := text("make 1 | make 2 | put new | put old | put new | put error 61 | put error 62 | get yes 00 | get no | get yes - | get error 61 | delete no | delete yes | len 0 | len 1 | len error 140" +
		"| clone 3 | open 4 | open error 142 | next pair 00 - | next done | next error 142 | clear | clear error 142 | release | release | release error 141 | release error 143 | slots 0 | slots 8 | probes 0 | probes 1 | probes error 61 | live 320 | audit fine | make error 30 | make error 120 | make error 22 | clone error 140")
	if out := ran(t, in); out != want {
		t.Errorf("P22.2: %q, want %q", out, want)
	}
	// The text's last line need not have an end; the answers' has.
	if out := ran(t, "limit 5\nlive"); out != "live 0\n" {
		t.Errorf("P22.2: %q", out)
	}
}

// TestNoCommands: P22.2: texts without commands.
func TestNoCommands(t *testing.T) {
	for _, in := range []string{"limit 0", "limit 0\n", "\n # so \n limit 2097152 # and so\n\n", "limit 7\nhash 'a 1\nhash 'b 2\n"} {
		if out := ran(t, in); out != "" {
			t.Errorf("P22.2: Run(%q) = %q, want nothing", in, out)
		}
	}
}

// TestRunAsPlay: P22.2: drawn scripts: the lines of Play's answers.
func TestRunAsPlay(t *testing.T) {
	for _, s := range stories(t, 3, 300) {
		l, e := larder.Play(s.script())
		if e != api.OK {
			t.Fatalf("P22.1: %s: error %d", s.what, e)
		}
		var want strings.Builder
		for _, a := range l {
			fmt.Fprintf(&want, "%s\n", script.Show(a))
		}
		if out := ran(t, s.text()); out != want.String() {
			t.Fatalf("P22.2: %s: %.500q, want %.500q", s.what, out, want.String())
		}
	}
}

// TestManyLines: P22.2: as many commands as a text has room for.
func TestManyLines(t *testing.T) {
	const head = "limit 9\n"
	n := (api.MaxText - len(head)) / len("live\n")
	if out := ran(t, head+strings.Repeat("live\n", n)); out != strings.Repeat("live 0\n", n) {
		t.Errorf("P22.2: %d commands: %d bytes of answers", n, len(out))
	}
	if n < math.MaxUint16 {
		t.Errorf("the test is too tame: %d commands", n)
	}
}
