package lang

import "larder/api"

// What a Name is that a statement or an expression uses.
const (
	noName = iota
	varName
	mapName
)

const anyNumber = -1

// stmtForm: what a kind of statements uses, and how many expressions it has.
type stmtForm struct {
	name   int
	keyVal bool
	exprs  int
	body   bool
	other  bool // Else
}

var stmtForms = [...]stmtForm{
	api.StSet:      {name: varName, exprs: 1},
	api.StPut:      {name: mapName, exprs: 2},
	api.StDelete:   {name: mapName, exprs: 1},
	api.StClear:    {name: mapName},
	api.StPrint:    {exprs: anyNumber},
	api.StIf:       {exprs: 1, body: true, other: true},
	api.StWhile:    {exprs: 1, body: true},
	api.StRange:    {name: mapName, keyVal: true, body: true},
	api.StBreak:    {},
	api.StContinue: {},
}

// exprForm: what a kind of expressions uses, and how many expressions it has.
type exprForm struct {
	name int
	args int
}

var exprForms = [...]exprForm{
	api.ExNum:    {},
	api.ExName:   {name: varName},
	api.ExIndex:  {name: mapName, args: 1},
	api.ExHas:    {name: mapName, args: 1},
	api.ExLen:    {name: mapName},
	api.ExUnary:  {args: 1},
	api.ExBinary: {args: 2},
}

func formed(p api.Prog) bool {
	for _, name := range p.Maps {
		if !isName(name) {
			return false
		}
	}
	return everyStmt(p.Stmts, stmtFormed, exprFormed)
}

// stmtFormed: is it formed, as far as it is asked without its parts?
func stmtFormed(s *api.Stmt) bool {
	if s.Kind < api.StSet || s.Kind > api.StContinue {
		return false
	}
	f := stmtForms[s.Kind]
	return nameFits(s.Name, f.name != noName) && nameFits(s.Key, f.keyVal) && nameFits(s.Val, f.keyVal) &&
		(f.exprs == anyNumber || len(s.Exprs) == f.exprs) &&
		(f.body || len(s.Body) == 0) && (f.other || len(s.Else) == 0)
}

// exprFormed: is it formed, as far as it is asked without its parts?
func exprFormed(x *api.Expr) bool {
	if x.Kind < api.ExNum || x.Kind > api.ExBinary {
		return false
	}
	f := exprForms[x.Kind]
	return nameFits(x.Name, f.name != noName) && len(x.Args) == f.args && opFits(x) && numFits(x)
}

func nameFits(name string, used bool) bool {
	if used {
		return isName(name)
	}
	return name == ""
}

func opFits(x *api.Expr) bool {
	switch x.Kind {
	case api.ExUnary:
		return isUnary(x.Op)
	case api.ExBinary:
		return ruleOf(x.Op) != noRule
	}
	return x.Op == ""
}

func numFits(x *api.Expr) bool {
	if x.Kind == api.ExNum {
		return x.Num >= 0
	}
	return x.Num == 0
}

// everyStmt: do all statements and all expressions hold, at every depth?
func everyStmt(list []api.Stmt, stmtHolds func(*api.Stmt) bool, exprHolds func(*api.Expr) bool) bool {
	for i := range list {
		s := &list[i]
		if !stmtHolds(s) || !everyExpr(s.Exprs, exprHolds) || !everyStmt(s.Body, stmtHolds, exprHolds) || !everyStmt(s.Else, stmtHolds, exprHolds) {
			return false
		}
	}
	return true
}

func everyExpr(list []api.Expr, holds func(*api.Expr) bool) bool {
	for i := range list {
		if !holds(&list[i]) || !everyExpr(list[i].Args, holds) {
			return false
		}
	}
	return true
}
