package code_test

import (
	"fmt"
	"math"
	"math/rand"
	"strings"
	"testing"

	"larder/api"
	"larder/code"
	"larder/lang"
)

// drawer: programs, code and texts, by draws that a seed fixes.
type drawer struct{ *rand.Rand }

func draws(seed int64) drawer { return drawer{rand.New(rand.NewSource(seed))} }

func pick[T any](d drawer, list ...T) T { return list[d.Intn(len(list))] }

func (d drawer) variable() string { return pick(d, "a", "b", "c", "x", "maps", "_") }

func (d drawer) mapName() string { return pick(d, "m", "n") }

// expr: the text of one in brackets, of which at most so many lie in one another.
func (d drawer) expr(deep int) string {
	if deep <= 1 || d.Intn(5) == 0 {
		return pick(d, "0", "1", "2", "5", "9223372036854775807", d.variable(), d.variable(), d.variable(), "len "+d.mapName())
	}
	switch d.Intn(7) {
	case 0:
		return fmt.Sprintf("%s[%s]", d.mapName(), d.expr(deep-1))
	case 1:
		return fmt.Sprintf("(has %s[%s])", d.mapName(), d.expr(deep-1))
	case 2:
		return fmt.Sprintf("(%s%s)", pick(d, "-", "!"), d.expr(deep-1))
	}
	op := pick(d, "+", "-", "*", "/", "%", "==", "!=", "<", "<=", ">", ">=", "&&", "||", "&&", "||", "+", "-")
	return fmt.Sprintf("(%s %s %s)", d.expr(deep-1), op, d.expr(deep-1))
}

// block: the text of some statements, with at most so many blocks in one another; within: they lie in a loop.
func (d drawer) block(most, deep int, within bool) string {
	text := ""
	for range d.Intn(most + 1) {
		text += d.stmt(deep, within) + "\n"
	}
	return text
}

func (d drawer) stmt(deep int, within bool) string {
	if deep > 0 && d.Intn(2) == 0 {
		switch d.Intn(5) {
		case 0:
			return fmt.Sprintf("while %s { %s}", d.expr(3), d.block(4, deep-1, true))
		case 1, 2:
			return fmt.Sprintf("for %s, %s in %s { %s}", d.variable(), d.variable(), d.mapName(), d.block(4, deep-1, true))
		case 3:
			return fmt.Sprintf("if %s { %s} else { %s}", d.expr(3), d.block(3, deep-1, within), d.block(3, deep-1, within))
		}
		return fmt.Sprintf("if %s { %s}", d.expr(3), d.block(3, deep-1, within))
	}
	if within && d.Intn(5) == 0 {
		return pick(d, "break;", "continue;")
	}
	switch d.Intn(9) {
	case 0, 1, 2:
		return fmt.Sprintf("%s[%s] = %s;", d.mapName(), d.expr(3), d.expr(3))
	case 3:
		return fmt.Sprintf("delete %s[%s];", d.mapName(), d.expr(3))
	case 4:
		return pick(d, "print;", "clear "+d.mapName()+";")
	case 5, 6:
		list := []string{d.expr(2), d.expr(3), d.expr(4)}
		return "print " + strings.Join(list[d.Intn(3):], ", ") + ";"
	}
	return fmt.Sprintf("%s = %s;", d.variable(), d.expr(4))
}

// program: the text of one that lang.Check lets in.
func (d drawer) program() string {
	return pick(d, "map m; map n;", "map n; map m;", "map unused; map m; map n; map last;") + "\n" + d.block(6, 4, false)
}

// someNumbers: at the edges of what a number may be.
var someNumbers = []int64{0, 0, 0, 1, -1, 2, 3, 5, 16, 17, 29, 30, 99, -99, 1 << 31, math.MaxInt64 - 1, math.MaxInt64, math.MinInt64, math.MinInt64 + 1}

func (d drawer) number() int64 { return pick(d, someNumbers...) }

// anyCode: code with any numbers.
func (d drawer) anyCode() api.Code {
	c := api.Code{Vars: int(d.number()), Maps: int(d.number())}
	for range d.Intn(12) {
		in := api.Inst{Op: 1 + d.Intn(29)}
		switch d.Intn(4) {
		case 0:
			in = api.Inst{Op: int(d.number()), A: int(d.number()), N: d.number()}
		case 1:
			in.A = int(d.number())
		case 2:
			in.N = d.number()
		}
		c.Insts = append(c.Insts, in)
	}
	return c
}

// nearCode: code that may be right: each instruction uses what there may be.
func (d drawer) nearCode(most int) api.Code {
	length := d.Intn(most + 1)
	c := api.Code{Vars: min(2, length), Maps: 2}
	for range length {
		r := pick(d, rows...)
		in := api.Inst{Op: r.op}
		switch r.uses {
		case "number":
			in.N = d.number()
		case "variable", "map":
			in.A = d.Intn(2)
		case "many":
			in.A = d.Intn(3)
		case "place":
			in.A = d.Intn(length + 1)
		}
		c.Insts = append(c.Insts, in)
	}
	return c
}

// changed: the code with some of it changed, taken out, put in or exchanged.
func (d drawer) changed(c api.Code) api.Code {
	list := append([]api.Inst{}, c.Insts...)
	for range 1 + d.Intn(2) {
		if len(list) == 0 {
			break
		}
		at := d.Intn(len(list))
		switch d.Intn(8) {
		case 0:
			list[at].A += pick(d, -1, 1)
		case 1:
			list = append(list[:at], list[at+1:]...)
		case 2:
			list = append(list[:at], append([]api.Inst{pick(d, list...)}, list[at:]...)...)
		case 3:
			to := d.Intn(len(list))
			list[at], list[to] = list[to], list[at]
		case 4:
			list[at] = api.Inst{Op: pick(d, 24, 25, 27), A: d.Intn(len(list) + 1)}
		case 5:
			list[at] = pick(d, list...)
		case 6:
			list[at] = api.Inst{Op: 1 + d.Intn(29), A: list[at].A, N: list[at].N}
		case 7:
			list[at] = api.Inst{Op: pick(d, 7, 8, 9, 28, 29)}
		}
	}
	c.Insts = list
	return c
}

const rounds = 20000

// TestDrawnPrograms: P24.1, P24.2, P24.4: each is compiled to what the tables say, and that is taken.
func TestDrawnPrograms(t *testing.T) {
	d := draws(241)
	length := 0
	for range rounds / 4 {
		text := d.program()
		c := compiled(t, text)
		if want := plainCompile(parsed(t, text)); !same(c, want) {
			t.Fatalf("P24.2: Compile of %q = %s, want %s", short(text), told(c), told(want))
		}
		if e := code.Verify(c); e != api.OK || plainVerify(c) != api.OK {
			t.Fatalf("P24.4: Verify of the code of %q: error %d, want OK", short(text), e)
		}
		if goesWrong(c.Insts, 200) {
			t.Fatalf("P24.5: the code of %q goes wrong on some way", short(text))
		}
		length += len(c.Insts)
	}
	if length < rounds*10 {
		t.Errorf("the test draws too short programs: %d instructions in all", length)
	}
}

// TestDrawnCode: P24.3, P24.5: code that is nearly right is taken just where the plain look takes it; and then it goes wrong on no way.
func TestDrawnCode(t *testing.T) {
	d := draws(242)
	taken, wrong := 0, 0
	look := func(c api.Code) {
		e := code.Verify(c)
		if want := plainVerify(c); e != want {
			t.Fatalf("P24.3: Verify of %s = %d, want %d", told(c), e, want)
		}
		if e != api.OK {
			wrong++
			return
		}
		taken++
		if goesWrong(c.Insts, 100) {
			t.Fatalf("P24.5: code that is taken goes wrong on some way: %s", told(c))
		}
	}
	for range rounds {
		look(d.nearCode(10))
		look(d.nearCode(4))
		look(d.anyCode())
		p, _, _ := lang.Parse(d.program())
		c, _ := code.Compile(p)
		look(d.changed(c))
		look(d.changed(d.changed(c)))
	}
	if taken < rounds/10 || wrong < rounds {
		t.Errorf("the test draws too little: %d codes are taken, %d are not", taken, wrong)
	}
}

// TestSmallCode: P24.3, P24.5: all code of up to four instructions, of those that can differ.
func TestSmallCode(t *testing.T) {
	var each []api.Inst
	for _, line := range []string{"push 1", "store 0", "neg", "add", "print 0", "print 2", "open 0", "close", "tick"} {
		in, _ := plainInst(strings.Fields(line))
		each = append(each, in)
	}
	for place := range 5 {
		for _, op := range []int{24, 25, 27} {
			each = append(each, api.Inst{Op: op, A: place})
		}
	}
	var list [4]api.Inst
	taken := 0
	var further func(n int)
	further = func(n int) {
		c := api.Code{Vars: min(1, n), Maps: 1, Insts: list[:n]}
		e := code.Verify(c)
		if want := plainVerify(c); e != want {
			t.Fatalf("P24.3: Verify of %s = %d, want %d", told(c), e, want)
		}
		if e == api.OK {
			taken++
			if goesWrong(c.Insts, 30) {
				t.Fatalf("P24.5: code that is taken goes wrong on some way: %s", told(c))
			}
		}
		if n == len(list) {
			return
		}
		for _, in := range each {
			list[n] = in
			further(n + 1)
		}
	}
	further(0)
	if taken < 1000 {
		t.Errorf("the test has too few codes that are taken: %d", taken)
	}
}

// TestLoopsAndBranches: P24.2, P24.4: all programs of ifs, loops, breaks and continues with up to two statements a list and two blocks in one another.
func TestLoopsAndBranches(t *testing.T) {
	lists := func(stmts []string, two bool) []string {
		out := []string{""}
		for _, s := range stmts {
			out = append(out, s)
			for _, u := range stmts {
				if two {
					out = append(out, s+" "+u)
				}
			}
		}
		return out
	}
	stmts := []string{"a = 1;", "break;", "continue;"}
	for deep := range 2 {
		inner := lists(stmts, deep == 0)
		more := append([]string{}, stmts...)
		for _, body := range inner {
			more = append(more, "while b { "+body+" }", "for k, v in m { "+body+" }")
			for _, other := range inner {
				more = append(more, "if c { "+body+" } else { "+other+" }")
			}
		}
		stmts = more
	}
	for i, s := range stmts {
		text := "map m; " + []string{"while d { %s }", "for d, e in m { %s print d; }"}[i%2]
		p := parsed(t, strings.Replace(text, "%s", s, 1))
		c, e := code.Compile(p)
		if want := plainCompile(p); e != api.OK || !same(c, want) {
			t.Fatalf("P24.2: Compile of %q: error %d, %s, want %s", text, e, told(c), told(want))
		}
		if e := code.Verify(c); e != api.OK {
			t.Fatalf("P24.4: Verify of the code of %q: error %d, want OK", text, e)
		}
	}
	if len(stmts) < 30000 {
		t.Errorf("the test has too few programs: %d", len(stmts))
	}
}
