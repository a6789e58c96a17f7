package lang_test

import (
	"fmt"
	"strings"
	"testing"

	"larder/api"
	"larder/lang"
)

// asPlain: Parse answers of the text what the chapter's words, written out in another way, say of it. Is it a program?
func asPlain(t *testing.T, text string) bool {
	t.Helper()
	line, e := plainFault(text)
	if e != api.OK {
		refuses(t, text, line, e)
		return false
	}
	reads(t, text, plainRead(text))
	return true
}

// bytesAsPlain: so it is with each of these in the place of the bar.
func bytesAsPlain(t *testing.T, frame string, each func(give func(bytes string))) {
	t.Helper()
	each(func(bytes string) { asPlain(t, strings.Replace(frame, "|", bytes, 1)) })
}

// TestEachByte: each of the 256 bytes alone, ahead of, within, between and behind the tokens of every kind.
func TestEachByte(t *testing.T) {
	for _, frame := range []string{"|", "|x = 1;", "x|= 1;", "x y|= 1;", "x|y = 1;", "x = |;", "x = 1|;", "x = 1|2;", "x = a|b;", "x = a |b;", "x = a| b;", "x =| 1;", "x = 1;|", "x = 1;\n|\n", "print 1 <|2;", "// |\nx = 1;\n$", "clear|m;", "m|1] = 2;", "print (1|;", "while 1 {|"} {
		bytesAsPlain(t, frame, func(give func(string)) {
			for c := range 256 {
				give(string([]byte{byte(c)}))
			}
		})
	}
}

// TestFewBytes: each two and each three bytes of those that begin, go on or end a token of some kind.
func TestFewBytes(t *testing.T) {
	all := "\x00\t\n\v\r !\"%&'()*+,-./09:;<=>?@AZ[\\]^_`az{|}~\x7f\x80\xa0\xff"
	for _, frame := range []string{"|", "print a|b;\n", "a|1;"} {
		bytesAsPlain(t, frame, func(give func(string)) {
			for _, a := range []byte(all) {
				for _, b := range []byte(all) {
					give(string([]byte{a, b}))
				}
			}
		})
	}
	few := "\n =&/|!<>-(;0a_\xc3"
	bytesAsPlain(t, "x = a|a;", func(give func(string)) {
		for i := range len(few) * len(few) * len(few) {
			n := len(few)
			give(string([]byte{few[i%n], few[i/n%n], few[i/n/n]}))
		}
	})
}

// TestWords: none of the thirteen is a name, wherever a name may stand; and what only begins or ends like one is a name.
func TestWords(t *testing.T) {
	places := []string{"map |;", "| = 1;", "|[1] = 2;", "delete |[1];", "clear |;", "for |, v in m { }", "for k, | in m { }", "for k, v in | { }", "print |;", "print |[1];", "print has |[1];", "print len |;"}
	for _, place := range places {
		for _, w := range wordList {
			if asPlain(t, strings.Replace(place, "|", w, 1)) && !strings.Contains(place, "print |") {
				t.Errorf("P23.1: the word %s is taken for a name in %s", w, place)
			}
			for _, n := range []string{w + "s", w + "_", w + "1", "_" + w, "s" + w, w + w, strings.ToUpper(w), strings.ToUpper(w[:1]) + w[1:], w[:len(w)-1], w[1:]} {
				if !asPlain(t, strings.Replace(place, "|", n, 1)) {
					t.Errorf("P23.1: the name %s is not taken for one in %s", n, place)
				}
			}
		}
	}
}

// TestNames: letters, digits and _, and no digit in front; in the tree they stand as they are written.
func TestNames(t *testing.T) {
	letters := "abcdefghijklmnopqrstuvwxyzABCDEFGHIJKLMNOPQRSTUVWXYZ_"
	for _, n := range []string{letters, letters + "0123456789", "_0", "__", "A9_", strings.Repeat("long", 1000)} {
		reads(t, "map "+n+";"+n+"=1;", api.Prog{Maps: []string{n}, Stmts: block(set(n, num(1)))})
	}
	for _, c := range letters {
		reads(t, string(c)+"=1;", api.Prog{Stmts: block(set(string(c), num(1)))})
	}
	for _, c := range "0123456789" {
		refuses(t, "\n"+string(c)+"x=1;", 2, api.ErrSyntax)
		reads(t, "x"+string(c)+"=1;", api.Prog{Stmts: block(set("x"+string(c), num(1)))})
	}
}

// TestNumbers: zeros in front don't matter, however many; 2^63 - 1 is one, 2^63 is out of range, and so is all above it.
func TestNumbers(t *testing.T) {
	const most = "9223372036854775807"
	for text, n := range map[string]int64{"0": 0, "7": 7, "10": 10, "9223372036854775806": 1<<63 - 2, most: 1<<63 - 1} {
		for _, zeros := range []int{0, 1, 2, 19, 64, 1000, api.MaxText - 100} {
			reads(t, "print "+strings.Repeat("0", zeros)+text+";", api.Prog{Stmts: block(show(num(n)))})
		}
	}
	for _, text := range []string{"9223372036854775808", "9223372036854775809", "9223372036854775810", "9999999999999999999", "10000000000000000000", "18446744073709551615", "18446744073709551616", "18446744073709551617", "36893488147419103233", strings.Repeat("9", 1000), "1" + strings.Repeat("0", api.MaxText-100)} {
		for _, zeros := range []int{0, 1, 50} {
			refuses(t, "print\n"+strings.Repeat("0", zeros)+text+"\n;", 2, api.ErrRange)
		}
	}
	for _, text := range []string{"1_000", "1e3", "0x1", "1.5", "1.", ".5", "0b1", "1n", "1 2", "1'0"} {
		refuses(t, "print\n"+text+";", 2, api.ErrSyntax)
	}
}

// TestGreatNumbers: what is out of range is told as such just where a number may stand, and where no fault stands ahead of it.
func TestGreatNumbers(t *testing.T) {
	const great = "9223372036854775808"
	may := []string{"print |", "print 1, |", "print -|", "print !|", "print (|", "print 1 + |", "print a[|", "print has m[|", "x = |", "m[|", "m[1] = |", "delete m[|", "if |", "while |", "if 1 { } else if |"}
	for _, text := range may {
		refuses(t, strings.Replace(text, "|", "\n"+great+"\n$", 1), 2, api.ErrRange)
		refuses(t, strings.Replace(text, "|", "\n"+great, 1), 2, api.ErrRange)
		refuses(t, "}\n"+strings.Replace(text, "|", great, 1), 1, api.ErrSyntax)
		refuses(t, strings.Replace(text, "|", "\n1\n"+great, 1), 3, api.ErrSyntax)
		refuses(t, strings.Replace(text, "|", "\n"+great+"\n1"+great, 1), 2, api.ErrRange)
	}
	for _, text := range []string{"", "map ", "map m ", "x ", "x = 1 ", "x = 1; ", "x = a ", "x = a[1] ", "delete ", "delete m ", "clear ", "print 1 ", "print len ", "print has ", "print has m ", "for ", "for k ", "for k, ", "for k, v ", "for k, v in ", "for k, v in m ", "while 1 { ", "while 1 { } ", "if 1 { } else ", "break ", "continue "} {
		refuses(t, text+"\n"+great, 2, api.ErrSyntax)
	}
	for _, text := range may {
		asPlain(t, strings.Replace(text, "|", great, 1))
	}
}

// TestMarks: each mark stands for itself, each two of one byte that make none stay two, and a single & or | is odd.
func TestMarks(t *testing.T) {
	for _, a := range markList {
		for _, b := range append([]string{"", "&", "|", "1", "x"}, markList...) {
			for _, frame := range []string{"x|1;", "print 1 | 2;", "x[1|] = 2;", "|", "print a|", "print 1 |(2);"} {
				asPlain(t, strings.Replace(frame, "|", a+b, 1))
				asPlain(t, strings.Replace(frame, "|", a+"\n"+b, 1))
			}
		}
	}
	for _, odd := range []string{"&", "|", "&\n&", "|\n|", "& &", "&|", "|&", "~", "^", "?", ":", ".", "'", "\"", "\\", "#", "@", "$", "`"} {
		refuses(t, "print 1\n"+odd+"2;", 2, api.ErrSyntax)
	}
	refuses(t, "print 1\n&&&\n2;", 2, api.ErrSyntax)
	refuses(t, "print 1 &&\n&2;", 2, api.ErrSyntax)
	refuses(t, "print 1\n==\n=2;", 3, api.ErrSyntax)
	refuses(t, "x\n=\n=1;", 3, api.ErrSyntax)
	refuses(t, "print 1 <\n= 2;", 2, api.ErrSyntax)
	reads(t, "x=!y;", api.Prog{Stmts: block(set("x", unary("!", name("y"))))})
	reads(t, "x=-1;y=1--1;z=a<-b;", api.Prog{Stmts: block(set("x", unary("-", num(1))), set("y", binary(num(1), "-", unary("-", num(1)))), set("z", binary(name("a"), "<", unary("-", name("b")))))})
}

// TestRemarks: they go up to the next line feed or to the text's end, whatever bytes they have; a single slash is none.
func TestRemarks(t *testing.T) {
	one := api.Prog{Stmts: block(set("x", num(1)))}
	for _, text := range []string{"//", "//\n", "// x", "////", "//\r", "//\x00\xff$", " //\n//"} {
		reads(t, text, api.Prog{})
		reads(t, text+"\nx = 1;", one)
		reads(t, "x = 1;"+text, one)
		reads(t, "x ="+text+"\n1;", one)
		refuses(t, "x = 1"+text, 1+strings.Count(text, "\n"), api.ErrSyntax)
	}
	for _, text := range []string{"x = 4 / / 2;", "x = 4 /\t/ 2;", "/ /", "/", "/* */", "x = 4 /* 2 */ ;", "# x", "x = 4 // 2;", "x = 4 /// 2\n;", "x = 4 /2;//", "x = 4 / // 2\n 2;", "x = 1; // y\ry"} {
		asPlain(t, text)
	}
}

// TestLines: just the line feeds ahead of a token are counted: in blanks, behind remarks, and no other bytes; at the end those of the whole text.
func TestLines(t *testing.T) {
	for ahead, lines := range map[string]int{"": 0, "\n": 1, "\r": 0, "\r\n": 1, "\n\r": 1, "\n\n\n": 3, "\t \n": 1, "//\n": 1, "// \r\r\n": 1, "//": 0, "//\n//\n": 2, "\n//": 1} {
		for _, token := range []string{"$", "", "map", ")", "5"} {
			if strings.HasSuffix(ahead, "//") && token != "" {
				continue
			}
			for _, behind := range []string{"", "\n", "\n\n//\n"} {
				text := "x = (1)" + ahead + token + behind
				line := 1 + lines
				if token == "" {
					line += strings.Count(behind, "\n")
				}
				refuses(t, text, line, api.ErrSyntax)
				if got, e := plainFault(text); got != line || e != api.ErrSyntax {
					t.Errorf("the test's own reader tells line %d of %q, not %d", got, text, line)
				}
			}
		}
	}
	text := strings.Repeat("\n", api.MaxText-1)
	refuses(t, text+"$", api.MaxText, api.ErrSyntax)
	reads(t, text+"\n", api.Prog{})
	refuses(t, "print"+text[5:]+"\n", api.MaxText-4, api.ErrSyntax)
}

// TestNothingElseIsAsked: which names are maps is not asked, nor how often, nor how many maps there are.
func TestNothingElseIsAsked(t *testing.T) {
	reads(t, "map a; map a; a = b; print len c, d[1], a; break; for a, a in a { }", api.Prog{Maps: []string{"a", "a"}, Stmts: block(
		set("a", name("b")), show(length("c"), index("d", num(1)), name("a")), leave(), each("a", "a", "a"))})
	var text strings.Builder
	var want api.Prog
	for i := range 100 {
		fmt.Fprintf(&text, "map m%d;", i)
		want.Maps = append(want.Maps, fmt.Sprint("m", i))
	}
	reads(t, text.String(), want)
	if e := lang.Check(want); e != api.ErrNames {
		t.Errorf("P23.6: 100 maps: %d", e)
	}
}
