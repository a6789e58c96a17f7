package code_test

import (
	"fmt"
	"reflect"
	"strings"
	"testing"

	"larder/api"
	"larder/code"
	"larder/lang"
)

// isRefused: no code is answered beside the error, which is lang.Check's.
func isRefused(t *testing.T, p api.Prog, want api.Errno) {
	t.Helper()
	if e := lang.Check(p); e != want {
		t.Errorf("P23.6: Check(%+v) = %d, want %d", p, e, want)
	}
	if c, e := code.Compile(p); e != want || !reflect.DeepEqual(c, api.Code{}) {
		t.Errorf("P24.1: Compile(%+v) = %s, error %d, want %d and the zero code", p, told(c), e, want)
	}
}

func TestCompileRefuses(t *testing.T) {
	one := []api.Expr{{Kind: api.ExNum, Num: 1}}
	good := api.Stmt{Kind: api.StSet, Name: "x", Exprs: one}
	stray := api.Stmt{Kind: api.StBreak}
	deep := api.Stmt{Kind: api.StIf, Exprs: one}
	for range 64 {
		deep = api.Stmt{Kind: api.StIf, Exprs: one, Body: []api.Stmt{deep}}
	}
	misused := api.Stmt{Kind: api.StClear, Name: "x"}
	var many []string
	for i := range 17 {
		many = append(many, fmt.Sprint("m", i))
	}
	for _, maps := range [][]string{{"a", "a"}, {"if"}, {""}, {"1"}, many} {
		isRefused(t, api.Prog{Maps: maps}, api.ErrNames)
		isRefused(t, api.Prog{Maps: maps, Stmts: []api.Stmt{good, misused, stray, deep}}, api.ErrNames)
	}
	for _, s := range []api.Stmt{misused, {Kind: api.StSet, Name: "m", Exprs: one}, {Kind: 0}, {Kind: 11}, {Kind: -1}, {Kind: api.StSet, Name: "x"}, {Kind: api.StBreak, Name: "x"}, {Kind: api.StPrint, Exprs: []api.Expr{{Kind: api.ExNum, Num: -1}}}, {Kind: api.StPrint, Exprs: []api.Expr{{Kind: api.ExBinary, Op: "=", Args: append(one, one...)}}}, {Kind: api.StRange, Name: "m", Key: "m", Val: "v"}} {
		isRefused(t, api.Prog{Maps: []string{"m"}, Stmts: []api.Stmt{s}}, api.ErrUse)
		isRefused(t, api.Prog{Maps: []string{"m"}, Stmts: []api.Stmt{good, stray, deep, s}}, api.ErrUse)
	}
	isRefused(t, api.Prog{Stmts: []api.Stmt{stray}}, api.ErrLoop)
	isRefused(t, api.Prog{Stmts: []api.Stmt{{Kind: api.StContinue}}}, api.ErrLoop)
	isRefused(t, api.Prog{Stmts: []api.Stmt{deep, good, stray}}, api.ErrLoop)
	isRefused(t, api.Prog{Stmts: []api.Stmt{good, deep}}, api.ErrDeep)
	isRefused(t, api.Prog{Stmts: []api.Stmt{good, deep.Body[0]}}, api.ErrDeep) // 65: the innermost if is 2 deep
}

// TestCompileAsCheck: what lang.Check says of drawn programs with some of them changed is what Compile says.
func TestCompileAsCheck(t *testing.T) {
	d := draws(243)
	told := map[api.Errno]int{}
	for range 4000 {
		p := parsed(t, d.program())
		d.spoil(&p)
		want := lang.Check(p)
		c, e := code.Compile(p)
		if e != want || e != api.OK && !reflect.DeepEqual(c, api.Code{}) || e == api.OK && !same(c, plainCompile(p)) {
			t.Fatalf("P24.1: Compile(%+v) = %+v, error %d, want %d", p, c, e, want)
		}
		told[e]++
	}
	for _, e := range []api.Errno{api.OK, api.ErrNames, api.ErrUse, api.ErrLoop, api.ErrDeep} {
		if told[e] < 10 {
			t.Errorf("the test draws too little: error %d is told %d times", e, told[e])
		}
	}
}

// spoil: some of the program is changed.
func (d drawer) spoil(p *api.Prog) {
	stmts := []*api.Stmt{}
	var all func(list []api.Stmt)
	all = func(list []api.Stmt) {
		for i := range list {
			stmts = append(stmts, &list[i])
			all(list[i].Body)
			all(list[i].Else)
		}
	}
	all(p.Stmts)
	if len(stmts) == 0 {
		return
	}
	s := pick(d, stmts...)
	switch d.Intn(9) {
	case 0:
		p.Maps = append(p.Maps, pick(d, "m", "n", "for", "a"))
	case 1:
		s.Kind = d.Intn(12)
	case 2:
		s.Name = pick(d, "m", "a", "", "in")
	case 3:
		s.Exprs = append(s.Exprs, api.Expr{Kind: d.Intn(9), Name: "m"})
	case 4:
		*s = api.Stmt{Kind: pick(d, api.StBreak, api.StContinue)}
	case 5:
		x := api.Expr{Kind: api.ExNum}
		for range pick(d, 10, 60, 61, 62, 63, 64, 65) {
			x = api.Expr{Kind: api.ExUnary, Op: "-", Args: []api.Expr{x}}
		}
		*s = api.Stmt{Kind: api.StSet, Name: "a", Exprs: []api.Expr{x}}
	case 6:
		s.Key, s.Val = s.Val, s.Key
	case 7:
		s.Body, s.Else = s.Else, s.Body
	}
}

// TestVariables: P24.1: in which order the variables of each statement and of each expression get their numbers.
func TestVariables(t *testing.T) {
	for _, c := range []struct{ text, order string }{
		{"a = b;", "a b"}, {"a = a;", "a"}, {"b = a; a = b; c = a;", "b a c"}, {"a = b + c;", "a b c"}, {"a = b; b = c; d = a;", "a b c d"},
		{"m[a] = b;", "a b"}, {"m[b] = a;", "b a"}, {"m[a + b] = c - a;", "a b c"},
		{"delete m[a];", "a"}, {"clear m; a = 1;", "a"}, {"print;", ""}, {"print a, b, a, c;", "a b c"}, {"print c, b, a;", "c b a"},
		{"if a { b = c; } else { d = e; }", "a b c d e"}, {"if e { } else { d = c; }", "e d c"}, {"if 1 { a = 1; } b = 2;", "a b"},
		{"if a { b = 1; } else if c { d = 1; } else { e = 1; }", "a b c d e"},
		{"while a { b = c; } d = 1;", "a b c d"},
		{"for a, b in m { c = d; } e = 1;", "a b c d e"}, {"for b, a in m { }", "b a"}, {"for a, a in m { b = 1; }", "a b"}, {"x = y; for y, z in m { }", "x y z"},
		{"while 1 { for a, b in m { break; } c = 1; continue; } d = 1;", "a b c d"},
		{"print m[a], has m[b], len m, -c, !d;", "a b c d"}, {"print a + (b - c) * d;", "a b c d"}, {"print a && b || c && d;", "a b c d"}, {"print m[m[a] + b] == c;", "a b c"},
		{"print (a || b) && (c || d), e;", "a b c d e"}, {"print a / b, b % c, d < a, e <= f, g > h, i >= j, k != l;", "a b c d e f g h i j k l"},
	} {
		text := "map m; " + c.text
		want := strings.Fields(c.order)
		got := compiled(t, text)
		if got.Vars != len(want) {
			t.Errorf("P24.1: the code of %q has %d variables, want %d", text, got.Vars, len(want))
		}
		// Each variable's number is seen where it is printed behind all that.
		for n, name := range want {
			more := compiled(t, text+" print "+name+";")
			if last := more.Insts[len(more.Insts)-2]; last != (api.Inst{Op: api.InLoad, A: n}) || more.Vars != len(want) {
				t.Errorf("P24.1: in %q the variable %s is loaded by %+v, want the number %d", text, name, last, n)
			}
		}
		more := compiled(t, text+" print new;")
		if last := more.Insts[len(more.Insts)-2]; last.A != len(want) || more.Vars != len(want)+1 {
			t.Errorf("P24.1: behind %q a new variable is loaded by %+v, want the number %d", text, last, len(want))
		}
	}
}

// TestManyVariables: P24.1: names that differ in a letter, and very many of them.
func TestManyVariables(t *testing.T) {
	becomes(t, "a = 1; A = 2; _ = 3; a1 = 4; a = 5;", "4 0; tick; push 1; store 0; tick; push 2; store 1; tick; push 3; store 2; tick; push 4; store 3; tick; push 5; store 0")
	var text strings.Builder
	for i := range 2048 {
		fmt.Fprintf(&text, "v%d=1;", i)
	}
	c := compiled(t, text.String())
	if c.Vars != 2048 || len(c.Insts) != 3*2048 {
		t.Fatalf("P24.1: 2048 variables become %d, with %d instructions", c.Vars, len(c.Insts))
	}
	for i := range 2048 {
		if c.Insts[3*i+2] != (api.Inst{Op: api.InStore, A: i}) {
			t.Fatalf("P24.1: the variable %d is stored by %+v", i, c.Insts[3*i+2])
		}
	}
}

// TestMaps: P24.1: each map has the number of its place among those that are declared, whether it is used or not.
func TestMaps(t *testing.T) {
	becomes(t, "map a;", "0 1")
	becomes(t, "map a; map b; map c;", "0 3")
	becomes(t, "map b; map a; clear a; clear b;", "0 2; tick; clear 1; tick; clear 0")
	becomes(t, "map a; map b; map c; print len c, x;", "1 3; tick; len 2; load 0; print 2")
	text, lines := "", "0 16"
	for i := range 16 {
		text += fmt.Sprintf("map m%d; ", 15-i)
	}
	for i := range 16 {
		text += fmt.Sprintf("clear m%d; ", i)
		lines += fmt.Sprintf("; tick; clear %d", 15-i)
	}
	becomes(t, text, lines)
	// A map's name is no variable: these are counted without it.
	becomes(t, "map x; y = len x; z = x[y];", "2 1; tick; len 0; store 0; tick; load 0; get 0; store 1")
}

// TestStatements: P24.2: each row of the table.
func TestStatements(t *testing.T) {
	for text, lines := range map[string]string{
		"":                                       "0 2",
		"x = 7;":                                 "1 2; tick; push 7; store 0",
		"n[1] = 2;":                              "0 2; tick; push 1; push 2; put 1",
		"m[1 + 2] = 3 * 4;":                      "0 2; tick; push 1; push 2; add; push 3; push 4; mul; put 0",
		"delete n[5];":                           "0 2; tick; push 5; del 1",
		"clear n;":                               "0 2; tick; clear 1",
		"print;":                                 "0 2; tick; print 0",
		"print 1;":                               "0 2; tick; push 1; print 1",
		"print 1, 2, 3;":                         "0 2; tick; push 1; push 2; push 3; print 3",
		"if 1 { }":                               "0 2; tick; push 1; zero 3",
		"if 1 { } else { }":                      "0 2; tick; push 1; zero 3",
		"if 1 { print; }":                        "0 2; tick; push 1; zero 5; tick; print 0",
		"if 1 { print; } clear m;":               "0 2; tick; push 1; zero 5; tick; print 0; tick; clear 0",
		"if 1 { } else { print; }":               "0 2; tick; push 1; zero 4; jump 6; tick; print 0",
		"if 1 { print; } else { clear m; }":      "0 2; tick; push 1; zero 6; tick; print 0; jump 8; tick; clear 0",
		"if 1 { } else if 2 { } else { print; }": "0 2; tick; push 1; zero 4; jump 10; tick; push 2; zero 8; jump 10; tick; print 0",
		"if 1 { if 2 { print; } } else { }":      "0 2; tick; push 1; zero 8; tick; push 2; zero 8; tick; print 0",
		"while 1 { }":                            "0 2; tick; push 1; zero 4; jump 0",
		"clear m; while 1 { print; } clear n;":   "0 2; tick; clear 0; tick; push 1; zero 8; tick; print 0; jump 2; tick; clear 1",
		"for k, v in n { }":                      "2 2; tick; open 1; tick; next 7; store 1; store 0; jump 2",
		"for k, k in n { }":                      "1 2; tick; open 1; tick; next 7; store 0; store 0; jump 2",
		"print; for k, v in m { print; } print;": "2 2; tick; print 0; tick; open 0; tick; next 11; store 1; store 0; tick; print 0; jump 4; tick; print 0",
	} {
		becomes(t, "map m; map n; "+text, lines)
	}
	becomes(t, "", "0 0")
}

// TestBreaksAndContinues: P24.2: in a while, in a range, in each within the other, and behind an if.
func TestBreaksAndContinues(t *testing.T) {
	for text, lines := range map[string]string{
		"while 1 { break; }":                   "0 1; tick; push 1; zero 6; tick; jump 6; jump 0",
		"while 1 { continue; }":                "0 1; tick; push 1; zero 6; tick; jump 0; jump 0",
		"print; while 1 { break; continue; }":  "0 1; tick; print 0; tick; push 1; zero 10; tick; jump 10; tick; jump 2; jump 2",
		"for k, v in m { break; }":             "2 1; tick; open 0; tick; next 10; store 1; store 0; tick; close; jump 10; jump 2",
		"for k, v in m { continue; }":          "2 1; tick; open 0; tick; next 9; store 1; store 0; tick; jump 2; jump 2",
		"for k, v in m { break; break; }":      "2 1; tick; open 0; tick; next 13; store 1; store 0; tick; close; jump 13; tick; close; jump 13; jump 2",
		"while 1 { if 2 { break; } }":          "0 1; tick; push 1; zero 9; tick; push 2; zero 8; tick; jump 9; jump 0",
		"while 1 { if 2 { } else { break; } }": "0 1; tick; push 1; zero 10; tick; push 2; zero 7; jump 9; tick; jump 10; jump 0",
		"while 1 { if 2 { continue; } }":       "0 1; tick; push 1; zero 9; tick; push 2; zero 8; tick; jump 0; jump 0",
		"for k, v in m { if 2 { break; } }":    "2 1; tick; open 0; tick; next 13; store 1; store 0; tick; push 2; zero 12; tick; close; jump 13; jump 2",
		"for k, v in m { if 2 { continue; } }": "2 1; tick; open 0; tick; next 12; store 1; store 0; tick; push 2; zero 11; tick; jump 2; jump 2",
		// of two whiles
		"while 1 { while 2 { break; } break; }":       "0 1; tick; push 1; zero 12; tick; push 2; zero 9; tick; jump 9; jump 3; tick; jump 12; jump 0",
		"while 1 { while 2 { continue; } continue; }": "0 1; tick; push 1; zero 12; tick; push 2; zero 9; tick; jump 3; jump 3; tick; jump 0; jump 0",
		"while 1 { break; while 2 { break; } }":       "0 1; tick; push 1; zero 12; tick; jump 12; tick; push 2; zero 11; tick; jump 11; jump 5; jump 0",
		// a while within a range: its break closes no walk
		"for k, v in m { while 1 { break; } break; }":       "2 1; tick; open 0; tick; next 16; store 1; store 0; tick; push 1; zero 12; tick; jump 12; jump 6; tick; close; jump 16; jump 2",
		"for k, v in m { while 1 { continue; } continue; }": "2 1; tick; open 0; tick; next 15; store 1; store 0; tick; push 1; zero 12; tick; jump 6; jump 6; tick; jump 2; jump 2",
		// a range within a while: its break closes its walk, the while's closes none
		"while 1 { for k, v in m { break; } break; }":       "2 1; tick; push 1; zero 16; tick; open 0; tick; next 13; store 1; store 0; tick; close; jump 13; jump 5; tick; jump 16; jump 0",
		"while 1 { for k, v in m { continue; } continue; }": "2 1; tick; push 1; zero 15; tick; open 0; tick; next 12; store 1; store 0; tick; jump 5; jump 5; tick; jump 0; jump 0",
		// of two ranges: a break closes one walk
		"for k, v in m { for w, x in m { break; } }":    "4 1; tick; open 0; tick; next 17; store 1; store 0; tick; open 0; tick; next 16; store 3; store 2; tick; close; jump 16; jump 8; jump 2",
		"for k, v in m { for w, x in m { } continue; }": "4 1; tick; open 0; tick; next 16; store 1; store 0; tick; open 0; tick; next 13; store 3; store 2; jump 8; tick; jump 2; jump 2",
	} {
		becomes(t, "map m; "+text, lines)
	}
}

// TestExpressions: P24.2: each row of the table, and each of them within another.
func TestExpressions(t *testing.T) {
	for text, lines := range map[string]string{
		"0": "push 0", "9223372036854775807": "push 9223372036854775807", "a": "load 0",
		"m[1]": "push 1; get 0", "n[a]": "load 0; get 1", "has m[1]": "push 1; has 0", "has n[a]": "load 0; has 1", "len m": "len 0", "len n": "len 1", "m[n[a]]": "load 0; get 1; get 0", "has m[len n]": "len 1; has 0",
		"-a": "load 0; neg", "!a": "load 0; not", "-!-a": "load 0; neg; not; neg", "-1": "push 1; neg",
		"a + 2": "load 0; push 2; add", "a - 2": "load 0; push 2; sub", "a * 2": "load 0; push 2; mul", "a / 2": "load 0; push 2; div", "a % 2": "load 0; push 2; rem",
		"a == 2": "load 0; push 2; eq", "a != 2": "load 0; push 2; ne", "a < 2": "load 0; push 2; lt", "a <= 2": "load 0; push 2; le", "a > 2": "load 0; push 2; gt", "a >= 2": "load 0; push 2; ge",
		"1 - 2 - 3": "push 1; push 2; sub; push 3; sub", "1 - (2 - 3)": "push 1; push 2; push 3; sub; sub", "-(1 + 2) * 3": "push 1; push 2; add; neg; push 3; mul",
		"1 && 2": "push 1; zero 7; push 2; zero 7; push 1; jump 8; push 0", "1 || 2": "push 1; zero 4; jump 6; push 2; zero 8; push 1; jump 9; push 0",
		"1 && 2 && 3":   "push 1; zero 7; push 2; zero 7; push 1; jump 8; push 0; zero 13; push 3; zero 13; push 1; jump 14; push 0",
		"1 && (2 && 3)": "push 1; zero 13; push 2; zero 9; push 3; zero 9; push 1; jump 10; push 0; zero 13; push 1; jump 14; push 0",
		"1 || 2 || 3":   "push 1; zero 4; jump 6; push 2; zero 8; push 1; jump 9; push 0; zero 11; jump 13; push 3; zero 15; push 1; jump 16; push 0",
		"1 || (2 || 3)": "push 1; zero 4; jump 13; push 2; zero 7; jump 9; push 3; zero 11; push 1; jump 12; push 0; zero 15; push 1; jump 16; push 0",
		"1 || 2 && 3":   "push 1; zero 4; jump 12; push 2; zero 10; push 3; zero 10; push 1; jump 11; push 0; zero 14; push 1; jump 15; push 0",
		"(1 || 2) && 3": "push 1; zero 4; jump 6; push 2; zero 8; push 1; jump 9; push 0; zero 14; push 3; zero 14; push 1; jump 15; push 0",
		"1 && 2 || 3":   "push 1; zero 7; push 2; zero 7; push 1; jump 8; push 0; zero 10; jump 12; push 3; zero 14; push 1; jump 15; push 0",
		"!(1 && a) + 2": "push 1; zero 7; load 0; zero 7; push 1; jump 8; push 0; not; push 2; add",
	} {
		vars := strings.Count(text, "a") - strings.Count(text, "has")
		becomes(t, "map m; map n; print "+text+";", fmt.Sprintf("%d 2; tick; %s; print 1", vars, lines))
	}
	becomes(t, "if 1 && 2 { while 3 || 4 { } }", "0 0; tick; push 1; zero 7; push 2; zero 7; push 1; jump 8; push 0; zero 20; tick; push 3; zero 13; jump 15; push 4; zero 17; push 1; jump 18; push 0; zero 20; jump 9")
}
