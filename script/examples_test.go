package script_test

import (
	"strings"
	"testing"

	"larder/api"
	"larder/script"
)

func TestExampleText(t *testing.T) {
	text := "# two maps\nlimit 65536\nhash 'ab 0xFF   # whatever the seed\nmake 7 0 2 1 1 1 16\nput 1 'ab 2A\nrelease\n"
	want := api.Script{Limit: 65536, Over: []api.Over{{Key: "ab", Hash: 255}}, Cmds: []api.Cmd{
		{Op: api.OpMake, U: 7, N: 0, Fields: []int{2, 1, 1, 1, 16}}, {Op: api.OpPut, H: 1, Key: "ab", Elem: "\x2a"}, {Op: api.OpRelease},
	}}
	reads(t, text, want)
	prints(t, want, "limit 65536\nhash 6162 0xff\nmake 0x7 0 2 1 1 1 16\nput 1 6162 2a\nrelease\n")
}

func TestExampleTable(t *testing.T) {
	refuses(t, "", 1, api.ErrText)
	refuses(t, "\n\n", 3, api.ErrText)
	reads(t, "limit 5", api.Script{Limit: 5})
	refuses(t, "limit 5\nlen 1\nhash 61 1", 3, api.ErrText)
	refuses(t, "len 1\nlimit 5", 1, api.ErrText)
	refuses(t, "limit 9223372036854775808", 1, api.ErrRange)
	refuses(t, "limit 5\nput x 6", 2, api.ErrText)
	refuses(t, "limit 5\nput 99999999999999999999 6 61", 2, api.ErrRange)
	refuses(t, "limit 5\nput 1 6 99999999999999999999x", 2, api.ErrText)
	refuses(t, "limit 5\nget 1 '", 2, api.ErrText)
	reads(t, "limit 5\nget 1 '#", api.Script{Limit: 5, Cmds: []api.Cmd{{Op: api.OpGet, H: 1, Key: "#"}}})
	refuses(t, "limit 5\nget 1 #", 2, api.ErrText)
	refuses(t, "limit +5", 1, api.ErrText)
	refuses(t, "limit 5\r", 1, api.ErrText)
	reads(t, "limit -007\nclear 1 007", api.Script{Limit: -7, Cmds: []api.Cmd{{Op: api.OpClear, H: 1, U: 7}}})

	shows(t, api.Answer{Op: api.OpGet, Yes: true, Elem: "\x00\xff"}, "get yes 00ff")
	shows(t, api.Answer{Op: api.OpGet, Yes: true}, "get yes -")
	shows(t, api.Answer{Op: api.OpPut, Err: api.ErrMemory, Yes: true}, "put error 22")
	shows(t, api.Answer{Op: api.OpNext, Yes: true, Key: "a"}, "next pair 61 -")
	shows(t, api.Answer{Op: api.OpAudit, N: 3, Off: 16}, "audit rule 3 16")

	for line, want := range map[string]api.Answer{"len 5": {Op: 5, N: 5}, "get error 61": {Op: 2, Err: 61}, "clear": {Op: 6}} {
		if a, e := script.Read(line); a != want || e != api.OK {
			t.Errorf("the chapter's examples: Read(%q) = %+v, error %d, want %+v", line, a, e, want)
		}
	}
	for _, line := range []string{"len  5", "len 05", "len 5 ", "limit 5", ""} {
		if a, e := script.Read(line); a != (api.Answer{}) || e != api.ErrText {
			t.Errorf("the chapter's examples: Read(%q) = %+v, error %d, want ErrText", line, a, e)
		}
	}
}

// answersTo: the lines of the answers to a text's commands. Both have bars between their lines.
func answersTo(t *testing.T, text string) string {
	t.Helper()
	s, line, e := script.Parse(strings.ReplaceAll(text, " | ", "\n"))
	if e != api.OK {
		t.Fatalf("the document's examples: Parse(%q) = line %d, error %d", text, line, e)
	}
	on := begin(t, s.Limit, s.Over...)
	var lines []string
	for _, c := range s.Cmds {
		a := script.Play(on, c)
		l := script.Show(a)
		if back, e := script.Read(l); back != a || e != api.OK {
			t.Errorf("P16.5: Read(%q) = %+v, error %d, want %+v", l, back, e, a)
		}
		lines = append(lines, l)
	}
	return strings.Join(lines, " | ")
}

// puts: a line for each letter.
func puts(letters string) string {
	text := ""
	for _, k := range letters {
		text += " | put 1 '" + string(k) + " 'x"
	}
	return text
}

// TestExamplesOfTheWhole: those of the document that need no more than commands played on a store; want is how the answers end.
func TestExamplesOfTheWhole(t *testing.T) {
	hashes := ""
	for _, k := range "abcdefghijklmno" {
		hashes += " | hash '" + string(k) + " 0"
	}
	const fifth = "limit 65536 | hash 'a 0 | hash 'b 0x8000000000000000 | hash 'c 0 | make 0 0 1 1 1 1 16 | put 1 'a 'x | put 1 'b 'x | put 1 'c 'x | open 1 0 0"
	for i, c := range []struct{ text, want string }{
		{"limit 4096 | make 0 0 1 1 1 1 16 | put 1 'a 'x | put 1 'a 'y | get 1 'a | get 1 'b | len 1", "make 1 | put new | put old | get yes 79 | get no | len 1"},
		{"limit 4096 | get 1 'a | make 0 0 1 1 1 1 16 | next 1 | release 1 1 | release 1 2 | release 1 | get 1 'a | make 0 0 1 1 1 1 16", "get error 140 | make 1 | next error 142 | release error 143 | release error 140 | release | get error 141 | make 2"},
		{"limit 4096 | make 0 0 1 1 1 1 | make 0 0 0 1 1 1 16 | make 0 0 1 129 3 1 16 | make 0 0 6 1 4 1 16 | make 0 -1 1 1 1 1 24 | make 0 4097 1 1 1 1 16 | make 0 8 1 1 1 1 16", "make error 30 | make error 31 | make error 32 | make error 33 | make error 34 | make error 120 | make 1"},
		{"limit 300 | make 0 0 1 1 1 1 16 | live | put 1 'a 'x | live" + puts("bcdefghi") + " | len 1 | put 1 'a 'z | live", "make 1 | live 64 | put new | live 256" + strings.Repeat(" | put new", 7) + " | put error 22 | len 8 | put old | live 256"},
		{fifth + " | next 2 | delete 1 'b | put 1 'b 'y | next 2 | next 2 | next 2", "open 2 | next pair 61 78 | delete yes | put new | next pair 63 78 | next done | next done"},
		{fifth + " | next 2 | clear 1 7 | put 1 'b 'x | next 2 | len 1", "next pair 61 78 | clear | put new | next done | len 1"},
		{"limit 65536" + hashes + " | make 0 0 1 1 1 1 16" + puts("abcdefghijklmno") + " | slots 1 | probes 1 'o | len 1", "slots 128 | probes 2 | len 15"},
		{"limit 65536 | make 5 0 1 1 1 1 16 | put 1 'a 'x | clone 1 | put 2 'a 'y | get 1 'a | release 1 | get 2 'a | audit | release 2 | live", "make 1 | put new | clone 2 | put old | get yes 78 | release | get yes 79 | audit fine | release | live 0"},
	} {
		if got := answersTo(t, c.text); !strings.HasSuffix(got, c.want) || i != 4 && i != 5 && i != 6 && got != c.want {
			t.Errorf("the document's example %d: %q, want %q", i+1, got, c.want)
		}
	}
	refuses(t, "limit 64\nput 1 'a", 2, api.ErrText)
}
