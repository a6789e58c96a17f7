package lang_test

import (
	"fmt"
	"reflect"
	"testing"

	"larder/api"
	"larder/lang"
)

// The expressions and the statements, each by what it uses.

func num(n int64) api.Expr     { return api.Expr{Kind: api.ExNum, Num: n} }
func name(s string) api.Expr   { return api.Expr{Kind: api.ExName, Name: s} }
func length(m string) api.Expr { return api.Expr{Kind: api.ExLen, Name: m} }
func index(m string, k api.Expr) api.Expr {
	return api.Expr{Kind: api.ExIndex, Name: m, Args: []api.Expr{k}}
}
func has(m string, k api.Expr) api.Expr {
	return api.Expr{Kind: api.ExHas, Name: m, Args: []api.Expr{k}}
}
func unary(op string, x api.Expr) api.Expr {
	return api.Expr{Kind: api.ExUnary, Op: op, Args: []api.Expr{x}}
}
func binary(x api.Expr, op string, y api.Expr) api.Expr {
	return api.Expr{Kind: api.ExBinary, Op: op, Args: []api.Expr{x, y}}
}

func set(s string, x api.Expr) api.Stmt {
	return api.Stmt{Kind: api.StSet, Name: s, Exprs: []api.Expr{x}}
}
func put(m string, k, x api.Expr) api.Stmt {
	return api.Stmt{Kind: api.StPut, Name: m, Exprs: []api.Expr{k, x}}
}
func del(m string, k api.Expr) api.Stmt {
	return api.Stmt{Kind: api.StDelete, Name: m, Exprs: []api.Expr{k}}
}
func empty(m string) api.Stmt        { return api.Stmt{Kind: api.StClear, Name: m} }
func show(list ...api.Expr) api.Stmt { return api.Stmt{Kind: api.StPrint, Exprs: list} }
func cond(x api.Expr, body, other []api.Stmt) api.Stmt {
	return api.Stmt{Kind: api.StIf, Exprs: []api.Expr{x}, Body: body, Else: other}
}
func loop(x api.Expr, body ...api.Stmt) api.Stmt {
	return api.Stmt{Kind: api.StWhile, Exprs: []api.Expr{x}, Body: body}
}
func each(k, v, m string, body ...api.Stmt) api.Stmt {
	return api.Stmt{Kind: api.StRange, Name: m, Key: k, Val: v, Body: body}
}
func leave() api.Stmt { return api.Stmt{Kind: api.StBreak} }
func again() api.Stmt { return api.Stmt{Kind: api.StContinue} }

func block(list ...api.Stmt) []api.Stmt { return list }

// prog: a program with the one map m.
func prog(list ...api.Stmt) api.Prog { return api.Prog{Maps: []string{"m"}, Stmts: list} }

// The operators, each list those of one rule, from the uppermost rule of the grammar down.
var rules = [][]string{{"||"}, {"&&"}, {"==", "!=", "<", "<=", ">", ">="}, {"+", "-"}, {"*", "/", "%"}}

var signs = []string{"-", "!"}

// operators: all of them, one rule behind the other.
func operators() []string {
	var list []string
	for _, r := range rules {
		list = append(list, r...)
	}
	return list
}

// ruleOf: which of the rules has the operator; -1, if none has it.
func ruleOf(op string) int {
	for i, r := range rules {
		for _, o := range r {
			if o == op {
				return i
			}
		}
	}
	return -1
}

// normal: a program of its own, the same one, with nil for each empty list.
func normal(p api.Prog) api.Prog {
	return api.Prog{Maps: append([]string(nil), p.Maps...), Stmts: normalStmts(p.Stmts)}
}

func normalStmts(list []api.Stmt) []api.Stmt {
	var out []api.Stmt
	for _, s := range list {
		s.Exprs, s.Body, s.Else = normalExprs(s.Exprs), normalStmts(s.Body), normalStmts(s.Else)
		out = append(out, s)
	}
	return out
}

func normalExprs(list []api.Expr) []api.Expr {
	var out []api.Expr
	for _, x := range list {
		x.Args = normalExprs(x.Args)
		out = append(out, x)
	}
	return out
}

func same(p, q api.Prog) bool { return reflect.DeepEqual(normal(p), normal(q)) }

func isZero(p api.Prog) bool { return reflect.DeepEqual(p, api.Prog{}) }

// short: a text for a message.
func short(text string) string {
	if len(text) > 200 {
		return text[:100] + " .. " + text[len(text)-100:]
	}
	return text
}

// reads: the text is read as that program.
func reads(t *testing.T, text string, want api.Prog) {
	t.Helper()
	p, line, e := lang.Parse(text)
	if line != 0 || e != api.OK {
		t.Errorf("P23.1: Parse(%q): line %d, error %d, want a program", short(text), line, e)
		return
	}
	if !same(p, want) {
		t.Errorf("P23.1: Parse(%q) = %+v, want %+v", short(text), p, want)
	}
}

// parsed: the text's program, which must be one.
func parsed(t *testing.T, text string) api.Prog {
	t.Helper()
	p, line, e := lang.Parse(text)
	if line != 0 || e != api.OK {
		t.Fatalf("P23.1: Parse(%q): line %d, error %d, want a program", short(text), line, e)
	}
	return p
}

// refuses: the text is refused at that line.
func refuses(t *testing.T, text string, line int, want api.Errno) {
	t.Helper()
	p, at, e := lang.Parse(text)
	if at != line || e != want {
		t.Errorf("P23.1: Parse(%q): line %d, error %d, want line %d, error %d", short(text), at, e, line, want)
	}
	if !isZero(p) {
		t.Errorf("P23.1: Parse(%q): a program that is not zero beside an error: %+v", short(text), p)
	}
}

// prints: the program's text is that one.
func prints(t *testing.T, p api.Prog, want string) {
	t.Helper()
	if got := lang.Print(p); got != want {
		t.Errorf("P23.2: Print = %q, want %q", short(got), short(want))
	}
}

// checks: the program is found so.
func checks(t *testing.T, p api.Prog, want api.Errno) {
	t.Helper()
	if e := lang.Check(p); e != want {
		t.Errorf("P23.6: Check(%s) = %d, want %d", told(p), e, want)
	}
}

// told: a program for a message.
func told(p api.Prog) string {
	if text := lang.Print(p); text != "" {
		return short(text)
	}
	return short(fmt.Sprintf("%+v", p))
}
