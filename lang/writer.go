package lang

import (
	"strconv"
	"strings"

	"larder/api"
)

// tabs: as many as a line begins with at most.
const tabs = "\t\t\t\t\t\t\t\t"

// writer: the text so far. What it writes is formed.
type writer struct{ text strings.Builder }

func (w *writer) add(parts ...string) {
	for _, part := range parts {
		w.text.WriteString(part)
	}
}

// begin: a new line of a statement that lies in so many blocks.
func (w *writer) begin(deep int) { w.add(tabs[:min(deep, len(tabs))]) }

func (w *writer) stmts(list []api.Stmt, deep int) {
	for i := range list {
		w.begin(deep)
		w.stmt(&list[i], deep)
	}
}

func (w *writer) stmt(s *api.Stmt, deep int) {
	switch s.Kind {
	case api.StIf:
		w.ifStmt(s, deep)
	case api.StWhile:
		w.add("while ")
		w.expr(&s.Exprs[0])
		w.block(s.Body, deep)
		w.add("}\n")
	case api.StRange:
		w.add("for ", s.Key, ", ", s.Val, " in ", s.Name)
		w.block(s.Body, deep)
		w.add("}\n")
	default:
		w.plainStmt(s)
		w.add(";\n")
	}
}

// block: from the blank ahead of its { up to the tabs ahead of its }.
func (w *writer) block(list []api.Stmt, deep int) {
	w.add(" {\n")
	w.stmts(list, deep+1)
	w.begin(deep)
}

func (w *writer) ifStmt(s *api.Stmt, deep int) {
	w.add("if ")
	w.expr(&s.Exprs[0])
	w.block(s.Body, deep)
	switch {
	case len(s.Else) == 0:
		w.add("}\n")
	case len(s.Else) == 1 && s.Else[0].Kind == api.StIf:
		w.add("} else ")
		w.ifStmt(&s.Else[0], deep)
	default:
		w.add("} else")
		w.block(s.Else, deep)
		w.add("}\n")
	}
}

// plainStmt: one that has no block, up to the mark that ends it.
func (w *writer) plainStmt(s *api.Stmt) {
	switch s.Kind {
	case api.StSet:
		w.add(s.Name, " = ")
		w.expr(&s.Exprs[0])
	case api.StPut:
		w.place(s.Name, &s.Exprs[0])
		w.add(" = ")
		w.expr(&s.Exprs[1])
	case api.StDelete:
		w.add("delete ")
		w.place(s.Name, &s.Exprs[0])
	case api.StClear:
		w.add("clear ", s.Name)
	case api.StPrint:
		w.add("print")
		w.printed(s.Exprs)
	case api.StBreak:
		w.add("break")
	case api.StContinue:
		w.add("continue")
	}
}

// printed: the expressions behind the word print.
func (w *writer) printed(list []api.Expr) {
	between := " "
	for i := range list {
		w.add(between)
		w.expr(&list[i])
		between = ", "
	}
}

// place: a map's name, and a key.
func (w *writer) place(name string, key *api.Expr) {
	w.add(name, "[")
	w.expr(key)
	w.add("]")
}

func (w *writer) expr(x *api.Expr) {
	switch x.Kind {
	case api.ExNum:
		w.add(strconv.FormatInt(x.Num, 10))
	case api.ExName:
		w.add(x.Name)
	case api.ExIndex:
		w.place(x.Name, &x.Args[0])
	case api.ExHas:
		w.add("has ")
		w.place(x.Name, &x.Args[0])
	case api.ExLen:
		w.add("len ", x.Name)
	case api.ExUnary:
		w.add(x.Op)
		w.operand(&x.Args[0], unaryRule)
	case api.ExBinary:
		w.binary(x)
	}
}

// binary: the places of its operands are those where the reader reads them: the left one may be of the operator's own rule, which goes on joining, but not where there is one operator at most.
func (w *writer) binary(x *api.Expr) {
	rule := ruleOf(x.Op)
	left := rule
	if rule == cmpRule {
		left = rule + 1
	}
	w.operand(&x.Args[0], left)
	w.add(" ", x.Op, " ")
	w.operand(&x.Args[1], rule+1)
}

// operand: in a place where that rule, or one below it, is read; a binary one from above it needs brackets.
func (w *writer) operand(x *api.Expr, rule int) {
	if x.Kind == api.ExBinary && ruleOf(x.Op) < rule {
		w.add("(")
		w.expr(x)
		w.add(")")
		return
	}
	w.expr(x)
}
