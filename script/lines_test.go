package script_test

import (
	"regexp"
	"strings"
	"testing"

	"larder/api"
)

var (
	limited   = api.Script{Limit: 5}
	withLen   = api.Script{Limit: 5, Cmds: []api.Cmd{{Op: api.OpLen, H: 1}}}
	withTwo   = api.Script{Limit: 5, Cmds: []api.Cmd{{Op: api.OpLen, H: 1}, {Op: api.OpLive}}}
	withBytes = func(key string) api.Script {
		return api.Script{Limit: 5, Cmds: []api.Cmd{{Op: api.OpGet, H: 1, Key: key}}}
	}
)

func TestBlanks(t *testing.T) {
	for _, text := range []string{
		"limit 5", "limit  5", "limit\t5", " limit 5", "\tlimit 5", "limit 5 ", "limit 5\t", " \t limit \t\t 5 \t ", "limit 5\n", "limit 5 \n", " limit 5\n",
		"\nlimit 5", "\n\n \n\t\n \t \nlimit 5\n\n\n", "limit 5\n ", "limit 5\n\t", "limit 5\n\n", "limit 5\n \n\t",
	} {
		reads(t, text, limited)
	}
	for _, text := range []string{"limit 5\nlen 1", "limit 5\nlen 1\n", "\nlimit 5\n\n\n len\t1 \n\n", "limit\t5\n\tlen  1\n\t"} {
		reads(t, text, withLen)
	}
}

func TestRemarks(t *testing.T) {
	for _, text := range []string{
		"limit 5#", "limit 5#x",
	} {
		refuses(t, text, 1, api.ErrText) // a # inside of a word is a byte like others
	}
	for _, text := range []string{
		"limit 5 #", "limit 5 #x", "limit 5 # 6", "limit 5 #6 7 8", "limit 5\t#", "#\nlimit 5", "# limit 6\nlimit 5", " \t # limit 6\nlimit 5", "##\n#\nlimit 5\n#len 1", "limit 5\n# len 1\n",
		"limit 5 # \xff\x00\r", "limit 5 ##", "#nope\nlimit 5 # 'x\n#\n", "#" + "\r\nlimit 5",
	} {
		reads(t, text, limited)
	}
	reads(t, "limit 5 # x\nlen 1 # y\n# z\nlive # len 1\n#", withTwo)
	reads(t, "limit 5\nlen 1\nlive #", withTwo)
	refuses(t, "limit 5\nlive#", 2, api.ErrText)
	refuses(t, "limit # 5", 1, api.ErrText)
	refuses(t, "limit #5", 1, api.ErrText)
	refuses(t, "limit 5\nget 1 #61", 2, api.ErrText)
	refuses(t, "limit 5\nput 1 61 #62", 2, api.ErrText)
	reads(t, "limit 5\nget 1 '#", withBytes("#"))
	reads(t, "limit 5\nget 1 'a#b #c", withBytes("a#b"))
	reads(t, "limit 5\nrelease # 1 2", api.Script{Limit: 5, Cmds: []api.Cmd{{Op: api.OpRelease}}})
	reads(t, "limit 5\nrelease 1 # 2", api.Script{Limit: 5, Cmds: []api.Cmd{{Op: api.OpRelease, Hs: []int{1}}}})
}

// TestOtherBytes: a byte that is neither blank nor tab nor line feed belongs to words, and ends none.
func TestOtherBytes(t *testing.T) {
	for i := range 256 {
		b := string([]byte{byte(i)})
		switch b {
		case " ", "\t", "\n":
			continue
		case "#":
			reads(t, b+"\nlimit 5", limited)
		default:
			refuses(t, b+"\nlimit 5", 1, api.ErrText)
		}
		refuses(t, "limit"+b+"5", 1, api.ErrText)
		refuses(t, "limit"+b+" 5", 1, api.ErrText)
		refuses(t, "limit 5\nlive"+b, 2, api.ErrText)
		reads(t, "limit 5\nget 1 'x"+b+"y", withBytes("x"+b+"y"))
	}
	for _, blank := range []string{"\u00a0", "\u2003", "\u2028", "\u0085", "\u3000", "\ufeff"} {
		refuses(t, "limit"+blank+"5", 1, api.ErrText)
		refuses(t, blank+"limit 5", 1, api.ErrText)
		refuses(t, "limit 5\nlen 1"+blank, 2, api.ErrText)
		refuses(t, "limit 5"+blank+"\nlen 1", 1, api.ErrText)
	}
}

func TestCarriageReturns(t *testing.T) {
	refuses(t, "limit 5\r", 1, api.ErrText)
	refuses(t, "limit 5\r\n", 1, api.ErrText)
	refuses(t, "limit 5 \r\n", 1, api.ErrText) // a field too many
	refuses(t, "\r\nlimit 5", 1, api.ErrText)
	refuses(t, "limit 5\n\r\n", 2, api.ErrText)
	refuses(t, "limit 5\nlive\r\n", 2, api.ErrText)
	refuses(t, "limit 5\rlen 1", 1, api.ErrText)
	reads(t, "limit 5 #\r\n", limited)
	reads(t, "limit 5\nget 1 'a\r\n", withBytes("a\r"))
}

// TestLineNumbers: lines without words are counted, and the last line needs no line feed.
func TestLineNumbers(t *testing.T) {
	for text, line := range map[string]int{
		"": 1, "\n": 2, "\n\n": 3, " ": 2, " \n": 2, "#": 2, "#\n": 2, "#\n ": 3, "\t\n\n#x\n": 4, "\n\n\nx": 4, "\n\n\nx\n": 4, "x": 1, "x\n": 1, "x\nlimit 5": 1, "x\ny": 1,
		"limit 5\nx": 2, "limit 5\n\n\nx": 4, "limit 5\n#\n \nx\n": 4, "limit 5\nlen 1\nx\ny": 3, "\nlimit 5\nlen 1\n\nlen 1 1\nlen\n": 5,
	} {
		refuses(t, text, line, api.ErrText)
	}
	for n := range 40 {
		refuses(t, strings.Repeat("\n", n), n+1, api.ErrText)
		refuses(t, strings.Repeat(" #\n", n), n+1, api.ErrText)
		refuses(t, strings.Repeat("\n", n)+" ", n+2, api.ErrText)
		refuses(t, strings.Repeat("\n", n)+"limit", n+1, api.ErrText)
		refuses(t, strings.Repeat("\n", n)+"limit 99999999999999999999", n+1, api.ErrRange)
		refuses(t, "limit 5"+strings.Repeat("\n", n+1)+"len", n+2, api.ErrText)
		refuses(t, "limit 5\n"+strings.Repeat("live\n", n)+"len 99999999999999999999\n", n+2, api.ErrRange)
	}
}

// TestFirstFault: of two lines with faults the first is told, whatever their errors.
func TestFirstFault(t *testing.T) {
	text, far := "len x", "len 99999999999999999999"
	for _, c := range []struct {
		lines []string
		line  int
		want  api.Errno
	}{
		{[]string{"limit 5", text, far}, 2, api.ErrText},
		{[]string{"limit 5", far, text}, 2, api.ErrRange},
		{[]string{"limit 5", "", "# ", far, "len 1", "nope", text}, 4, api.ErrRange},
		{[]string{"limit 5", "len 1", "limit 5", far}, 3, api.ErrText},
		{[]string{"limit 99999999999999999999", "nope"}, 1, api.ErrRange},
		{[]string{"limit x", far}, 1, api.ErrText},
		{[]string{far, "limit 5"}, 1, api.ErrText}, // it can't stand there
		{[]string{"limit 5", "len 1", "hash 61 99999999999999999999"}, 3, api.ErrText},
		{[]string{"limit 5", "hash 61 99999999999999999999", "len x"}, 2, api.ErrRange},
	} {
		refuses(t, strings.Join(c.lines, "\n"), c.line, c.want)
	}
}

// orderly: limits (l), hash lines (h), commands (c), in the order of lines.
var orderly = regexp.MustCompile(`\A(lh*c*)?\z`)

// TestOrderOfLines: all texts of up to six lines, of each kind.
func TestOrderOfLines(t *testing.T) {
	text := map[rune]string{'l': "limit 5\n", 'h': "hash 61 1\n", 'c': "len 1\n", '-': " # nothing\n"}
	var try func(kinds string)
	try = func(kinds string) {
		lines, met := "", ""
		fault := 0
		var want api.Script
		for i, k := range kinds {
			lines += text[k]
			met = strings.ReplaceAll(met+string(k), "-", "")
			if fault == 0 && !orderly.MatchString(met) {
				fault = i + 1
			}
			switch k {
			case 'l':
				want.Limit = 5
			case 'h':
				want.Over = append(want.Over, api.Over{Key: "a", Hash: 1})
			case 'c':
				want.Cmds = append(want.Cmds, api.Cmd{Op: api.OpLen, H: 1})
			}
		}
		if fault == 0 && met == "" {
			fault = len(kinds) + 1
		}
		if fault > 0 {
			refuses(t, lines, fault, api.ErrText)
		} else {
			reads(t, lines, want)
		}
		if len(kinds) < 6 {
			for _, k := range "lhc-" {
				try(kinds + string(k))
			}
		}
	}
	try("")
}

// TestEveryCommandBehindTheLimit: each command may stand behind the limit, behind a hash line and behind each other; a hash line or a limit line behind none of them; and none ahead of the limit.
func TestEveryCommandBehindTheLimit(t *testing.T) {
	over := []api.Over{{Key: "a", Hash: 1}}
	for op := firstOp; op <= lastOp; op++ {
		c := used(api.Cmd{Op: op, H: 1, Key: "k", Elem: "e", U: 2, V: 3, N: 4, Fields: []int{5}, Hs: []int{6}})
		line := plainLine(c)
		reads(t, "limit 5\n"+line, api.Script{Limit: 5, Cmds: []api.Cmd{c}})
		reads(t, "limit 5\nhash 61 1\n"+line, api.Script{Limit: 5, Over: over, Cmds: []api.Cmd{c}})
		for other := firstOp; other <= lastOp; other++ {
			d := api.Cmd{Op: other}
			reads(t, "limit 5\n"+line+plainLine(d), api.Script{Limit: 5, Cmds: []api.Cmd{c, d}})
		}
		refuses(t, line+"limit 5\n", 1, api.ErrText)
		refuses(t, "limit 5\n"+line+"hash 61 1\n", 3, api.ErrText)
		refuses(t, "limit 5\n"+line+"limit 5\n", 3, api.ErrText)
		refuses(t, "limit 5\n"+line+"\n# \nhash 61 1\n", 5, api.ErrText)
	}
}

// TestLongTexts: MaxText bytes are looked at, one more is not.
func TestLongTexts(t *testing.T) {
	const most = 1048576
	fill := func(head, unit, tail string) string {
		n := (most - len(head) - len(tail)) / len(unit)
		text := head + strings.Repeat(unit, n)
		return text + strings.Repeat(" ", most-len(tail)-len(text)) + tail
	}
	commands := fill("limit 5\n", "live\n", "")
	want := api.Script{Limit: 5}
	for range strings.Count(commands, "live") {
		want.Cmds = append(want.Cmds, api.Cmd{Op: api.OpLive})
	}
	reads(t, commands, want)
	refuses(t, commands+" ", 0, api.ErrText)
	refuses(t, commands+"\n", 0, api.ErrText)

	handles := fill("limit 5\nrelease", " 7", "")
	want = api.Script{Limit: 5, Cmds: []api.Cmd{{Op: api.OpRelease}}}
	for range strings.Count(handles, "7") {
		want.Cmds[0].Hs = append(want.Cmds[0].Hs, 7)
	}
	reads(t, handles, want)
	refuses(t, handles+"7", 0, api.ErrText)

	reads(t, fill("limit 5", " ", ""), limited)
	reads(t, fill("limit 5\n", "\n", ""), limited)
	reads(t, fill("", " ", "limit 5"), limited)
	reads(t, fill("#", "\xff", "\nlimit 5"), limited)
	reads(t, fill("limit ", "0", "5"), limited)
	reads(t, fill("limit 5\nget 1 '", "k", ""), withBytes(strings.Repeat("k", most-15)))
	reads(t, fill("limit 5\nget 1 ", "6b", ""), withBytes(strings.Repeat("k", (most-14)/2)))
	refuses(t, fill("limit 5\n", "live\n", "\nx"), strings.Count(fill("limit 5\n", "live\n", "\nx"), "\n")+1, api.ErrText)
	refuses(t, fill("limit ", "9", "9"), 1, api.ErrRange)
	refuses(t, fill("limit ", "9", "x"), 1, api.ErrText)
	refuses(t, fill("", "\n", ""), most+1, api.ErrText)
	refuses(t, fill("", " ", ""), 2, api.ErrText)
	refuses(t, fill("", "x", ""), 1, api.ErrText)
	for _, text := range []string{strings.Repeat("x", most+1), strings.Repeat("\n", most+1), "limit 5\n" + strings.Repeat("#", most-7), "limit 99999999999999999999" + strings.Repeat(" ", most), strings.Repeat("limit 5\n", 1<<20)} {
		refuses(t, text, 0, api.ErrText)
	}
}
