package lang_test

import (
	"slices"
	"strings"
	"testing"

	"larder/api"
	"larder/lang"
)

// TestTextsOfMaxText: a text of so many bytes is read, whatever it is; one of more is not looked at.
func TestTextsOfMaxText(t *testing.T) {
	one := api.Prog{Stmts: block(set("x", num(1)))}
	fill := func(ahead, with, behind string) string {
		return ahead + strings.Repeat(with, api.MaxText-len(ahead)-len(behind)) + behind
	}
	long := strings.Repeat("q", api.MaxText-3)
	for text, want := range map[string]api.Prog{
		fill("", " ", ""): {}, fill("", "\n", ""): {}, fill("//", "x", ""): {}, fill("", "/", ""): {}, fill("//", "$", "\n"): {},
		fill("x = 1;", " ", ""): one, fill("", "\t", "x = 1;"): one, fill("x = 1; //", "\xff", ""): one, fill("x =", "\n", "1;"): one, fill("x = ", "0", "1;"): one,
		long + "=1;": {Stmts: block(set(long, num(1)))}, "map " + long[2:] + ";": {Maps: []string{long[2:]}},
	} {
		if len(text) != api.MaxText {
			t.Errorf("the test's text has %d bytes", len(text))
		}
		reads(t, text, want)
		refuses(t, text+" ", 0, api.ErrSyntax)
		refuses(t, "\n"+text, 0, api.ErrSyntax)
	}
	refuses(t, fill("", "\n", "$"), api.MaxText, api.ErrSyntax)
	refuses(t, fill("", "\n", "$")+"\n", 0, api.ErrSyntax)
	refuses(t, fill("$", "\n", ""), 1, api.ErrSyntax)
	refuses(t, fill("$", "\n", "")+"\n", 0, api.ErrSyntax)
	refuses(t, fill("print ", "9", ";"), 1, api.ErrRange)
	refuses(t, fill("print ", "9", ";")+";", 0, api.ErrSyntax)
	refuses(t, fill("", "(", ""), 1, api.ErrSyntax)
	refuses(t, strings.Repeat("x = 1;\n", 1<<18), 0, api.ErrSyntax)
}

// programOf: the tokens of a program of just so many tokens; all but the last of its statements have four.
func programOf(count int) []string {
	var tokens []string
	for len(tokens) < count {
		switch count - len(tokens) {
		case 2, 6:
			tokens = append(tokens, "break", ";")
		case 3, 7:
			tokens = append(tokens, "clear", "m", ";")
		case 5:
			tokens = append(tokens, "print", "-", "!", "1", ";")
		default:
			tokens = append(tokens, "x", "=", "1", ";")
		}
	}
	return tokens
}

// TestProgramsOfMaxTokens: a text of so many tokens is read, with blanks and remarks behind it, too; one more is odd, whatever it is.
func TestProgramsOfMaxTokens(t *testing.T) {
	for _, count := range []int{8185, 8186, 8187, 8188, 8189, 8190, 8191, 8192} {
		tokens := programOf(count)
		if n := countTokens(lines(tokens)); n != count {
			t.Fatalf("the test's program has %d tokens, not %d", n, count)
		}
		for _, behind := range []string{"", " ", "\n", "// x = 1;", "//\n//\n\n"} {
			reads(t, lines(tokens)+behind, plainRead(lines(tokens)))
		}
	}
	for _, count := range []int{8193, 8194, 8195, 8196, 8197, 16384} {
		refuses(t, lines(programOf(count)), 8193, api.ErrSyntax)
		refuses(t, lines(programOf(count))+"\n\n", 8193, api.ErrSyntax)
	}
}

// TestEachTokenBeyond: the 8193rd token is the fault, of whatever class it is, if there is none ahead of it, be it that the program could go on with it or not; so is one that is out of range.
func TestEachTokenBeyond(t *testing.T) {
	for _, frame := range [][]string{nil, {"print", "("}, {"print", "1"}, {"if", "1", "{", "}", "else"}, {"x"}, {"for", "k", ","}} {
		for _, k := range spellings {
			for behind := range 2 {
				tokens := append(programOf(api.MaxTokens-len(frame)-behind), frame...)
				text := lines(append(tokens, k))
				if behind == 0 {
					refuses(t, text, 8193, api.ErrSyntax)
					refuses(t, text+"\n"+k, 8193, api.ErrSyntax)
					continue
				}
				line, e := plainFault(lines(append(slices.Clone(frame), k)))
				if e == api.OK {
					asRead, at, found := lang.Parse(text)
					if found != api.OK || at != 0 || !same(asRead, plainRead(text)) {
						t.Errorf("P23.1: the 8192nd token %q: line %d, error %d, want none", k, at, found)
					}
					continue
				}
				refuses(t, text, line+8191-len(frame), e)
			}
		}
	}
}

// TestFaultsAheadOfTheLimit: a fault ahead of the 8193rd token counts, though that one is odd; the end is none of the tokens.
func TestFaultsAheadOfTheLimit(t *testing.T) {
	for _, at := range []int{1, 2, 4000, 8189, 8190, 8191, 8192, 8193} {
		tokens := slices.Insert(programOf(9000), at-1, "$")
		refuses(t, lines(tokens), at, api.ErrSyntax)
		if at%4 == 3 {
			tokens[at-1] = "9223372036854775808"
			refuses(t, lines(tokens), at, api.ErrRange)
		}
	}
	tokens := programOf(8192)
	refuses(t, lines(tokens[:8191]), 8191, api.ErrSyntax)
	refuses(t, lines(tokens[:8191])+"\n\n", 8193, api.ErrSyntax)
	refuses(t, lines(append(tokens[:8190:8190], "1", ")")), 8192, api.ErrSyntax)
	refuses(t, lines(append(tokens[:8190:8190], "1", "+")), 8192, api.ErrSyntax)
	refuses(t, lines(append(tokens[:8190:8190], "1", "+"))+"\n", 8193, api.ErrSyntax)
	refuses(t, strings.Repeat("(", api.MaxText), 1, api.ErrSyntax)
	refuses(t, "x = "+strings.Repeat("\n(", 8190), 8191, api.ErrSyntax)
	refuses(t, "x = "+strings.Repeat("\n(", 8190)+"\n", 8192, api.ErrSyntax)
	refuses(t, "x = "+strings.Repeat("\n(", 8191), 8192, api.ErrSyntax)
	refuses(t, "x = "+strings.Repeat("\n(", 9000), 8192, api.ErrSyntax)
}
