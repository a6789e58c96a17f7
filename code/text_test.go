package code_test

import (
	"fmt"
	"math"
	"strings"
	"testing"

	"larder/api"
	"larder/code"
)

// writes: the code's text is this one, and is read as the code again.
func writes(t *testing.T, c api.Code, want string) {
	t.Helper()
	if got := code.Text(c); got != want {
		t.Errorf("P24.6: Text(%+v) = %q, want %q", c, short(got), short(want))
	}
	if d, line, e := code.Assemble(want); line != 0 || e != api.OK || !same(c, d) {
		t.Errorf("P24.8: Assemble(Text(%+v)) = %+v, line %d, error %d", c, d, line, e)
	}
}

// TestTextOfEach: P24.6: each instruction, with each number that it may use, and with one that it doesn't use.
func TestTextOfEach(t *testing.T) {
	writes(t, api.Code{}, "code 0 0\n")
	writes(t, api.Code{Insts: []api.Inst{}}, "code 0 0\n")
	one := func(in api.Inst, line string) { writes(t, api.Code{Insts: []api.Inst{in}}, "code 0 0\n"+line+"\n") }
	for _, r := range rows {
		bare := r.name + " 0"
		if r.uses == "nothing" {
			bare = r.name
		}
		one(api.Inst{Op: r.op}, bare)
		for _, n := range someNumbers {
			if n == 0 {
				continue
			}
			withA, withN := fmt.Sprintf("inst %d %d 0", r.op, n), fmt.Sprintf("inst %d 0 %d", r.op, n)
			switch r.uses {
			case "nothing":
			case "number":
				withN = fmt.Sprintf("%s %d", r.name, n)
			default:
				withA = fmt.Sprintf("%s %d", r.name, n)
			}
			one(api.Inst{Op: r.op, A: int(n)}, withA)
			one(api.Inst{Op: r.op, N: n}, withN)
			one(api.Inst{Op: r.op, A: int(n), N: n}, fmt.Sprintf("inst %d %d %d", r.op, n, n))
		}
	}
	for _, op := range []int{0, -1, 30, 31, 77, 1000, math.MaxInt, math.MinInt} {
		for _, n := range someNumbers {
			writes(t, api.Code{Insts: []api.Inst{{Op: op, A: int(n), N: -n}}}, fmt.Sprintf("code 0 0\ninst %d %d %d\n", op, n, -n))
		}
	}
	for _, vars := range someNumbers {
		for _, maps := range someNumbers {
			writes(t, api.Code{Vars: int(vars), Maps: int(maps)}, fmt.Sprintf("code %d %d\n", vars, maps))
		}
	}
}

// TestCountsOfNumbers: P24.7: each name with each count of numbers; the one that is right alone is taken.
func TestCountsOfNumbers(t *testing.T) {
	for _, r := range rows {
		right := 1
		if r.uses == "nothing" {
			right = 0
		}
		for count := range 6 {
			text := "code 0 0\n\n" + r.name + strings.Repeat(" 7", count)
			if count != right {
				odd(t, text, 3)
				continue
			}
			want := api.Inst{Op: r.op}
			switch r.uses {
			case "nothing":
			case "number":
				want.N = 7
			default:
				want.A = 7
			}
			reads(t, text, api.Code{Insts: []api.Inst{want}})
		}
		odd(t, strings.ToUpper("code 0 0\n"+r.name), 1)
		odd(t, "code 0 0\n"+strings.ToUpper(r.name)+" 7", 2)
		odd(t, "code 0 0\n"+r.name+"s 7", 2)
		odd(t, "code 0 0\n"+r.name[:len(r.name)-1]+" 7", 2)
		odd(t, "code 0 0\n7 "+r.name, 2)
		odd(t, "code 0 0\n"+r.name+" "+r.name, 2)
		odd(t, r.name+" 7", 1)
	}
	for count := range 7 {
		text := "code 0 0\ninst" + strings.Repeat(" 7", count)
		if count == 3 {
			reads(t, text, api.Code{Insts: []api.Inst{{Op: 7, A: 7, N: 7}}})
		} else {
			odd(t, text, 2)
		}
		text = "code" + strings.Repeat(" 7", count)
		if count == 2 {
			reads(t, text, api.Code{Vars: 7, Maps: 7})
		} else {
			odd(t, text, 1)
		}
	}
	reads(t, "code -3 99\ninst 29 0 0\ninst 1 0 5\ninst 0 0 0\ninst 24 -1 2", api.Code{Vars: -3, Maps: 99, Insts: []api.Inst{{Op: 29}, {Op: 1, N: 5}, {}, {Op: 24, A: -1, N: 2}}})
	for _, text := range []string{"inst 1 2 3", "inst 1 2", "tick", "0 0", "Code 0 0", "CODE 0 0", "codes 0 0", "code", "code0 0", "code 0 0 tick", "code 0 x", "code x 0", "code - 0", "code 0,0"} {
		odd(t, text, 1)
	}
	for _, text := range []string{"code 0 0", "code", "0", "7 7 7", "x", "INST 1 2 3", "inst 1 2 x", "inst x 2 3", "inst 1 x 3", "push x", "tick tick", "tick 0", "push 1 2", "print", "jump", "jump a", ";", "tick;", "//", "push '1"} {
		odd(t, "code 0 0\n"+text, 2)
		odd(t, "code 0 0\ntick\n"+text+"\ntick", 3)
	}
}

// TestNumbers: P24.7: numbers at the edges of their range, and what is none, in the place of each number of a line.
func TestNumbers(t *testing.T) {
	zeros := strings.Repeat("0", 1000)
	right := map[string]int64{
		"0": 0, "-0": 0, "7": 7, "-7": -7, "007": 7, "-007": -7, zeros: 0, "-" + zeros: 0, zeros + "12": 12, "-" + zeros + "12": -12,
		"9223372036854775807": math.MaxInt64, "-9223372036854775808": math.MinInt64, "-9223372036854775807": math.MinInt64 + 1, zeros + "9223372036854775807": math.MaxInt64, "-" + zeros + "9223372036854775808": math.MinInt64,
	}
	wrong := []string{
		"9223372036854775808", "-9223372036854775809", "18446744073709551616", "-18446744073709551616", "18446744073709551617", "99999999999999999999999999", "1" + zeros, zeros + "9223372036854775808", "-" + zeros + "9223372036854775809",
		"", "-", "--1", "+1", "+0", "-+1", "+-1", "1-", "1+", "0x1", "0b1", "0o1", "1_0", "_1", "1.0", "1.", ".1", "1e3", "x", "1x", "x1", "'1", "1,", "1;", "1#", "1\r", "\r", "1\v", "1\f", "１", "٣", "1\x00", "\xff", "1\xa0", "\u00a01", "1\u2003", "−1", "Inf", "nan",
	}
	for _, line := range []struct{ ahead, behind string }{
		{"code ", " 0"}, {"code 0 ", ""}, {"code 0 0\npush ", ""}, {"code 0 0\njump ", ""}, {"code 0 0\nload ", ""}, {"code 0 0\nget ", ""}, {"code 0 0\nprint ", ""}, {"code 0 0\ninst ", " 0 0"}, {"code 0 0\ninst 1 ", " 0"}, {"code 0 0\ninst 1 0 ", ""},
	} {
		at := 1 + strings.Count(line.ahead, "\n")
		for word, n := range right {
			want, _, _ := plainAssemble(line.ahead + fmt.Sprint(n) + line.behind)
			reads(t, line.ahead+word+line.behind, want)
		}
		for _, word := range wrong {
			odd(t, line.ahead+word+line.behind, at)
		}
	}
	reads(t, "code 0 0\npush 9223372036854775807\npush -9223372036854775808", api.Code{Insts: []api.Inst{{Op: 1, N: math.MaxInt64}, {Op: 1, N: math.MinInt64}}})
}

// TestBlanksAndRemarks: P24.7: what parts words, and what ends them.
func TestBlanksAndRemarks(t *testing.T) {
	want := api.Code{Vars: 1, Maps: 2, Insts: []api.Inst{{Op: api.InPush, N: 3}, {Op: api.InTick}}}
	for _, text := range []string{
		"code 1 2\npush 3\ntick", "code 1 2\npush 3\ntick\n", "code 1 2\npush 3\ntick\n\n\n", "\n\ncode 1 2\n\n\npush 3\n\ntick\n",
		" code 1 2 \n  push  3 \n\ttick\t", "\t\tcode\t1 \t2\npush\t3\ntick \t ", " \n\t\ncode 1 2\n \t \npush 3\n\t\t\ntick",
		"code 1 2 # the head\npush 3 # three\ntick # one step", "# a remark\ncode 1 2\n  # another\npush 3\n\t#\ntick", "code 1 2 #\npush 3 ##\ntick #x", "code 1 2 #1 2 3\npush 3 # 4\ntick #",
		"#code 0 0\ncode 1 2\npush 3\ntick\n#push 3", "code 1 2\npush 3 #\xff\x00\r\ntick # \u00e4\u2003", "# \"quoted\"\n#\n##\n#\t#\ncode 1 2\npush 3\ntick",
	} {
		reads(t, text, want)
	}
	for text, line := range map[string]int{
		"code 1 2# the head": 1, "code 1 2\ntick#": 2, "code 1 2\npush 3#": 2, "code 1 2\npush #3": 2, "code #1 2": 1, "code 1 2\r\ntick": 1, "code 1 2\ntick\r\ntick": 2, "code 1 2\n\r\ntick": 2, "code 1 2\n\v\n": 2, "code 1 2\n\f": 2, "code 1 2\n\u00a0": 2, "code 1 2\n\u0085": 2, "code\v1 2": 1, "code\u00a01 2": 1, "code\u20031 2": 1, "code 1 2\n\x00": 2, "code 1 2\npush\u00a03": 2, "code 1 2 // a remark": 1, "\ufeffcode 1 2": 1, "code 1 2\n' # '": 2,
	} {
		odd(t, text, line)
	}
}

// TestLineOfTheFault: P24.7: the first line that isn't as it must be tells its number; lines without words are counted.
func TestLineOfTheFault(t *testing.T) {
	for text, line := range map[string]int{
		"": 1, "\n": 2, "\n\n": 3, " ": 2, " \n": 2, " \n ": 3, "\t\n\n\t": 4, "#": 2, "# code 0 0": 2, "# code 0 0\n": 2, "#\n#\n#": 4, "\n\n\n\n\n\n\n\n\n\n": 11,
		"x": 1, "\nx": 2, "\n\n \n# \nx": 5, "x\nx": 1, "x\ncode 0 0": 1, "tick\ncode 0 0": 1, "code 0 0\nx\nx": 2, "code 0 0\n\n\nx\ny": 4, "code 0 0\ntick\ntick\npush": 4, "code 0 0\ncode 0 0\nx": 2, "code 0 0\ntick\n#\n\ncode 0 0": 5, "code 0 9223372036854775808\nx": 1, "code 0 0\npush 9223372036854775808\nx": 2, "code 0 0\nx\npush 9223372036854775808": 2,
	} {
		odd(t, text, line)
	}
	for _, lines := range []int{0, 1, 10, 1000, 100000} {
		odd(t, strings.Repeat("\n", lines), lines+1)
		odd(t, "code 0 0\n"+strings.Repeat("tick\n", lines)+"x", lines+2)
		odd(t, strings.Repeat(" #\n", lines)+"x", lines+1)
	}
}

// TestMaxText: P24.7: a text of MaxText bytes is looked at, one of a byte more is not.
func TestMaxText(t *testing.T) {
	const most = 1048576
	for _, text := range []string{"code 0 0\n", "code 1 2 #", "code 0 0\npush ", "", "x\n"} {
		for _, fill := range []string{" ", "0", "\n"} {
			whole := text + strings.Repeat(fill, most-len(text))
			c, line, e := code.Assemble(whole)
			want, wantLine, wantE := plainAssemble(whole)
			if !same(c, want) || line != wantLine || e != wantE {
				t.Errorf("P24.7: Assemble of MaxText bytes, %q: line %d, error %d, want line %d, error %d", short(whole), line, e, wantLine, wantE)
			}
			odd(t, whole+fill, 0)
		}
	}
	reads(t, "code 0 0"+strings.Repeat(" ", most-8), api.Code{})
	odd(t, "code 0 0"+strings.Repeat(" ", most-7), 0)
	odd(t, strings.Repeat("\n", most+1), 0)
	odd(t, strings.Repeat("x", 3*most), 0)
	odd(t, strings.Repeat(" ", most), 2)
}

// TestLongestThereAndBack: P24.8: a text of just MaxText bytes is read as its code again; a longer one is refused.
func TestLongestThereAndBack(t *testing.T) {
	const most = 1048576
	c := api.Code{Insts: make([]api.Inst, (most-9)/5)}
	for i := range c.Insts {
		c.Insts[i].Op = api.InTick
	}
	for len(plainText(c)) < most {
		last := &c.Insts[len(c.Insts)-1]
		*last = api.Inst{Op: api.InJump, A: 10*last.A + 1} // a byte or two more
	}
	text := code.Text(c)
	if len(text) > most {
		t.Fatalf("the test's text has %d bytes", len(text))
	}
	writes(t, c, plainText(c))
	c.Insts = append(c.Insts, api.Inst{Op: api.InTick})
	odd(t, code.Text(c), 0)
}

// TestDrawnCodeThereAndBack: P24.6, P24.8: code with any numbers.
func TestDrawnCodeThereAndBack(t *testing.T) {
	d := draws(244)
	for range rounds {
		for _, c := range []api.Code{d.anyCode(), d.nearCode(20)} {
			writes(t, c, plainText(c))
		}
	}
}

// TestDrawnTexts: P24.7, P24.8: texts with faults and without them; what is read is written, and read as the same again.
func TestDrawnTexts(t *testing.T) {
	d := draws(245)
	read, refused := 0, 0
	for range 2 * rounds {
		text := d.text()
		c, line, e := code.Assemble(text)
		want, wantLine, wantE := plainAssemble(text)
		if !same(c, want) || line != wantLine || e != wantE {
			t.Fatalf("P24.7: Assemble(%q) = %s, line %d, error %d, want %s, line %d, error %d", text, told(c), line, e, told(want), wantLine, wantE)
		}
		if e != api.OK {
			refused++
			continue
		}
		read++
		writes(t, c, plainText(c))
	}
	if read < rounds/4 || refused < rounds/4 {
		t.Errorf("the test draws too little: %d texts are read, %d refused", read, refused)
	}
}

// text: one of some code, with blanks, remarks and zeros wherever they mean nothing; at times with a fault.
func (d drawer) text() string {
	var text strings.Builder
	for _, line := range strings.SplitAfter(plainText(pick(d, d.anyCode(), d.nearCode(8))), "\n") {
		words := strings.Fields(line)
		for i := 1; i < len(words); i++ {
			if digits, below := strings.CutPrefix(words[i], "-"); below {
				words[i] = "-" + strings.Repeat("0", d.Intn(3)) + digits
			} else {
				words[i] = strings.Repeat("0", d.Intn(3)) + digits
			}
		}
		if d.Intn(40) == 0 {
			words = append(words, pick(d, "7", "x", "tick", "-", "\r", "+1", "9223372036854775808", "\xff"))
		}
		if d.Intn(60) == 0 && len(words) > 0 {
			words[d.Intn(len(words))] = pick(d, "code", "inst", "push", "5", "-5", "", "#", "add#", "Tick")
		}
		text.WriteString(pick(d, "", "", "", " ", "\n", "\t", "# a remark\n", " \t#\n\n"))
		text.WriteString(strings.Join(words, pick(d, " ", " ", "\t", "  ", " \t ")))
		text.WriteString(pick(d, "\n", "\n", " \n", "\t\n", " # push 7\n", " #\n\n"))
	}
	return text.String()
}

// TestOneByte: P24.7: texts that are right but for one byte: changed, taken out, put in.
func TestOneByte(t *testing.T) {
	for _, text := range []string{"code 1 -2 # 3\n\tpush -07\ninst 9 -1 2\n\nadd", "\ncode 0 0\nnext 12 \n", "#\ncode 0 00\ntick\nprint 3#"} {
		for at := range len(text) + 1 {
			for b := range 256 {
				piece := string([]byte{byte(b)})
				asTheChapter(t, text[:at]+piece+text[at:])
				if at < len(text) {
					asTheChapter(t, text[:at]+piece+text[at+1:])
				}
			}
			asTheChapter(t, text[:at])
			asTheChapter(t, text[at:])
			asTheChapter(t, text[:at]+text[min(at+1, len(text)):])
		}
	}
}

func asTheChapter(t *testing.T, text string) {
	t.Helper()
	c, line, e := code.Assemble(text)
	if want, wantLine, wantE := plainAssemble(text); !same(c, want) || line != wantLine || e != wantE {
		t.Errorf("P24.7: Assemble(%q) = %s, line %d, error %d, want %s, line %d, error %d", text, told(c), line, e, told(want), wantLine, wantE)
	}
}
