package code_test

import (
	"fmt"
	"reflect"
	"slices"
	"strings"
	"testing"

	"larder/api"
	"larder/code"
)

// roomy: the list in memory of its own, with something in its spare room.
func roomy[T any](list []T, spare T) []T {
	return append(append([]T{}, list...), spare, spare)[:len(list)]
}

var (
	spareStmt = api.Stmt{Kind: 99, Name: "spare"}
	spareExpr = api.Expr{Kind: 99, Name: "spare"}
	spareInst = api.Inst{Op: 99, A: 98, N: 97}
)

// roomyProg: the program in memory of its own, each list with something in its spare room.
func roomyProg(p api.Prog) api.Prog {
	return api.Prog{Maps: roomy(p.Maps, "spare"), Stmts: roomyStmts(p.Stmts)}
}

func roomyStmts(list []api.Stmt) []api.Stmt {
	out := roomy(list, spareStmt)
	for i := range out {
		s := &out[i]
		s.Exprs, s.Body, s.Else = roomyExprs(s.Exprs), roomyStmts(s.Body), roomyStmts(s.Else)
	}
	return out
}

func roomyExprs(list []api.Expr) []api.Expr {
	out := roomy(list, spareExpr)
	for i := range out {
		out[i].Args = roomyExprs(out[i].Args)
	}
	return out
}

// whole: all that the program's lists hold, their spare room too.
func whole(p api.Prog) string {
	var text strings.Builder
	var stmts func(list []api.Stmt)
	var exprs func(list []api.Expr)
	exprs = func(list []api.Expr) {
		for _, x := range list[:cap(list)] {
			fmt.Fprintf(&text, "(%d %q %d %q", x.Kind, x.Name, x.Num, x.Op)
			exprs(x.Args)
			text.WriteString(")")
		}
	}
	stmts = func(list []api.Stmt) {
		for _, s := range list[:cap(list)] {
			fmt.Fprintf(&text, "{%d %q %q %q", s.Kind, s.Name, s.Key, s.Val)
			exprs(s.Exprs)
			stmts(s.Body)
			text.WriteString("|")
			stmts(s.Else)
			text.WriteString("}")
		}
	}
	fmt.Fprintf(&text, "%q", p.Maps[:cap(p.Maps)])
	stmts(p.Stmts)
	return text.String()
}

// scribble: the whole of a list is written over.
func scribble[T any](list []T, with T) {
	list = list[:cap(list)]
	for i := range list {
		list[i] = with
	}
}

// TestCompileChangesNothing: P24.9, W3: neither the lists of a program nor the room behind them; and the code is new each time.
func TestCompileChangesNothing(t *testing.T) {
	d := draws(247)
	for range 1000 {
		p := parsed(t, d.program())
		if d.Intn(2) == 0 {
			d.spoil(&p)
		}
		p = roomyProg(p)
		before := whole(p)
		first, e := code.Compile(p)
		if whole(p) != before {
			t.Fatalf("P24.9: Compile changes what it is given: %s", short(before))
		}
		kept := slices.Clone(first.Insts)
		second, f := code.Compile(p)
		if !same(first, second) || e != f {
			t.Fatalf("W2: Compile of one program answers %s, then %s", told(first), told(second))
		}
		scribble(first.Insts, spareInst)
		if !slices.Equal(second.Insts, kept) {
			t.Fatalf("W3: two answers share their instructions: %s", told(second))
		}
		// What becomes of the program behind the call is not seen in the code.
		scribble(p.Stmts, spareStmt)
		scribble(p.Maps, "spare")
		if !slices.Equal(second.Insts, kept) {
			t.Fatalf("P24.9: the code hangs on the program still: %s", told(second))
		}
	}
}

// TestVerifyAndTextChangeNothing: P24.9, W3: neither the code's list nor the room behind it.
func TestVerifyAndTextChangeNothing(t *testing.T) {
	d := draws(248)
	for range 3000 {
		c := pick(d, d.nearCode(10), d.anyCode(), compiled(t, d.program()))
		c.Insts = roomy(c.Insts, spareInst)
		before := slices.Clone(c.Insts[:cap(c.Insts)])
		e, text := code.Verify(c), code.Text(c)
		if !slices.Equal(c.Insts[:cap(c.Insts)], before) {
			t.Fatalf("P24.9: Verify or Text changes what it is given: %s", told(c))
		}
		if f := code.Verify(c); f != e || code.Text(c) != text {
			t.Fatalf("W2: asked again of %s, they answer otherwise", told(c))
		}
		scribble(c.Insts, spareInst)
		if text != plainText(api.Code{Vars: c.Vars, Maps: c.Maps, Insts: before[:len(c.Insts)]}) {
			t.Fatalf("P24.9: the text hangs on the code still: %q", short(text))
		}
	}
}

// TestAssembleAnswersNewMemory: P24.9, W3: what is done to an answer is seen in no other one.
func TestAssembleAnswersNewMemory(t *testing.T) {
	d := draws(249)
	for range 3000 {
		text := d.text()
		first, line, e := code.Assemble(text)
		kept := slices.Clone(first.Insts)
		second, at, f := code.Assemble(text)
		if !same(first, second) || line != at || e != f {
			t.Fatalf("W2: Assemble(%q) answers %s, then %s", text, told(first), told(second))
		}
		scribble(first.Insts, spareInst)
		if third, _, _ := code.Assemble(text); !slices.Equal(second.Insts, kept) || !slices.Equal(third.Insts, kept) {
			t.Fatalf("W3: two answers to %q share their instructions", text)
		}
	}
}

// TestNothingIsKept: P24.9: what a call answers hangs on no other call.
func TestNothingIsKept(t *testing.T) {
	texts := []string{"", "x", "code 1 0", "code 0 0\npush 5\ntick", "code 2 1\nload x", strings.Repeat(" ", 1<<20+1), "code 3 16\nstore 1\n"}
	progs := []string{"", "a = b;", "map m; b = a; a = len m;", "map a; b = len a;", "while 1 { break; }"}
	type answer struct {
		c    api.Code
		line int
		e    api.Errno
	}
	ask := func(i int) answer {
		if i < len(texts) {
			c, line, e := code.Assemble(texts[i])
			return answer{c, line, e}
		}
		c, e := code.Compile(parsed(t, progs[i-len(texts)]))
		return answer{c, int(code.Verify(c)), e}
	}
	for i := range len(texts) + len(progs) {
		want := ask(i)
		for j := range len(texts) + len(progs) {
			ask(j)
			if got := ask(i); !reflect.DeepEqual(got, want) {
				t.Errorf("P24.9: behind another call another answer: %+v, want %+v", got, want)
			}
		}
	}
}

// TestGreatPrograms: P24.9, P24.4: programs of MaxTokens tokens, MaxDeep deep, and both.
func TestGreatPrograms(t *testing.T) {
	rep := strings.Repeat
	for text, length := range map[string]int{
		rep("x=1;", 2048):                                             3 * 2048,
		rep("print;", 4096):                                           2 * 4096,
		"print " + rep("1,", 4094) + "1;":                             4095 + 2,
		rep("if 1{}", 2048):                                           3 * 2048,
		rep("while 1{}", 2048):                                        4 * 2048,
		"map m;" + rep("for k,v in m{}", 1023):                        7 * 1023,
		"while 1{" + rep("break;", 4094) + "}":                        4 + 2*4094,
		"map m; for k,v in m{" + rep("break;", 4090) + "}":            7 + 3*4090,
		"while 1{" + rep("continue;", 4094) + "}":                     4 + 2*4094,
		rep("while 1{", 63) + "print;" + rep("}", 63):                 4*63 + 2,
		"map m;" + rep("for k,v in m{", 63) + "break;" + rep("}", 63): 7*63 + 3,
		rep("if 1{", 63) + "print;" + rep("}else{print;}", 63):        63*(4+2) + 2,
		rep("if 1{}else{", 63) + "print;" + rep("}", 63):              4*63 + 2,
		"print " + rep("-", 62) + "1;":                                65,
		"print " + rep("1&&(", 61) + "1&&1" + rep(")", 61) + ";":      2 + 62*5 + 63,
		"print 1" + rep("||1", 62) + ";":                              2 + 62*6 + 63,
		"map m; print " + rep("m[", 62) + "1" + rep("]", 62) + ";":    2 + 62 + 1,
		rep("print 1"+rep("+1", 62)+";", 64):                          64 * (2 + 125),
	} {
		c := compiled(t, text)
		if len(c.Insts) != length || !same(c, plainCompile(parsed(t, text))) {
			t.Errorf("P24.2: the code of %q has %d instructions, want %d", short(text), len(c.Insts), length)
		}
		if e := code.Verify(c); e != api.OK {
			t.Errorf("P24.4: Verify of the code of %q: error %d, want OK", short(text), e)
		}
		writes(t, c, plainText(c))
	}
}

// TestGreatTrees: P24.9: a program with very many parts, each counted as often as it is reached; and one that is too deep.
func TestGreatTrees(t *testing.T) {
	x := api.Expr{Kind: api.ExNum, Num: 1}
	for i := range 18 {
		x = api.Expr{Kind: api.ExBinary, Op: []string{"&&", "||"}[i%2], Args: []api.Expr{x, x}}
	}
	c, e := code.Compile(api.Prog{Stmts: []api.Stmt{{Kind: api.StPrint, Exprs: []api.Expr{x}}}})
	ands, ors := 0, 0
	for i := range 18 {
		if i%2 == 0 {
			ands += 1 << (17 - i)
		} else {
			ors += 1 << (17 - i)
		}
	}
	if want := 2 + 1<<18 + 5*ands + 6*ors; e != api.OK || len(c.Insts) != want {
		t.Errorf("P24.2: a great expression: error %d, %d instructions, want %d", e, len(c.Insts), want)
	}
	if e := code.Verify(c); e != api.OK {
		t.Errorf("P24.4: Verify of a great expression's code: error %d, want OK", e)
	}
	list := []api.Stmt{{Kind: api.StBreak}}
	for range 16 {
		list = []api.Stmt{{Kind: api.StWhile, Exprs: []api.Expr{{Kind: api.ExName, Name: "x"}}, Body: list}, {Kind: api.StRange, Name: "m", Key: "k", Val: "v", Body: list}}
	}
	p := api.Prog{Maps: []string{"m"}, Stmts: list}
	c, e = code.Compile(p)
	if e != api.OK || code.Verify(c) != api.OK || c.Vars != 3 {
		t.Errorf("P24.4: a program of many loops: error %d, %d instructions", e, len(c.Insts))
	}
	deep := list[:1]
	for range 1<<16 - 100 {
		deep = []api.Stmt{{Kind: api.StWhile, Exprs: []api.Expr{{Kind: api.ExNum}}, Body: deep}}
	}
	isTooDeep := api.Prog{Maps: []string{"m"}, Stmts: deep}
	if c, e := code.Compile(isTooDeep); e != api.ErrDeep || len(c.Insts) > 0 {
		t.Errorf("P24.1: a program that is too deep: error %d, want %d", e, api.ErrDeep)
	}
}

// TestAnyBytes: P24.9, W1: any bytes as a text: each call ends.
func TestAnyBytes(t *testing.T) {
	d := draws(2410)
	for range 10000 {
		b := make([]byte, d.Intn(60))
		d.Read(b)
		asTheChapter(t, string(b))
		asTheChapter(t, "code 0 0\n"+string(b))
	}
	for _, piece := range []string{"code 0 0\n", "tick\n", "tick ", "# ", "#\n", "\n", " ", "\t", "0", "-", "7 ", "\xff", "inst 1 2 3\n"} {
		text := "code 0 0\n" + strings.Repeat(piece, (1<<20-9)/len(piece))
		c, line, e := code.Assemble(text)
		if want, wantLine, wantE := plainAssemble(text); !same(c, want) || line != wantLine || e != wantE {
			t.Errorf("P24.7: Assemble(%q): line %d, error %d, want line %d, error %d", short(text), line, e, wantLine, wantE)
		}
	}
}
