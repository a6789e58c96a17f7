package lang

import (
	"slices"

	"larder/api"
)

// declared: may these be a program's maps?
func declared(maps []string) bool {
	if len(maps) > api.MaxMaps {
		return false
	}
	for i, name := range maps {
		if !isName(name) || slices.Contains(maps[:i], name) {
			return false
		}
	}
	return true
}

// wellUsed: is each name of a formed program used as what it is?
func wellUsed(p api.Prog) bool {
	fits := func(name string, what int) bool {
		return what == noName || slices.Contains(p.Maps, name) == (what == mapName)
	}
	stmtFits := func(s *api.Stmt) bool {
		f := stmtForms[s.Kind]
		return fits(s.Name, f.name) && (!f.keyVal || fits(s.Key, varName) && fits(s.Val, varName))
	}
	exprFits := func(x *api.Expr) bool { return fits(x.Name, exprForms[x.Kind].name) }
	return everyStmt(p.Stmts, stmtFits, exprFits)
}

// loopsHold: does each break and each continue lie in a loop? Within: these statements do.
func loopsHold(list []api.Stmt, within bool) bool {
	for i := range list {
		s := &list[i]
		if !within && (s.Kind == api.StBreak || s.Kind == api.StContinue) {
			return false
		}
		loop := s.Kind == api.StWhile || s.Kind == api.StRange
		if !loopsHold(s.Body, within || loop) || !loopsHold(s.Else, within) {
			return false
		}
	}
	return true
}

// stmtsWithin: is each of them at most so deep? What lies deeper is not looked at.
func stmtsWithin(list []api.Stmt, most int) bool {
	for i := range list {
		s := &list[i]
		if most == 0 || !exprsWithin(s.Exprs, most-1) || !stmtsWithin(s.Body, most-1) || !stmtsWithin(s.Else, most-1) {
			return false
		}
	}
	return true
}

func exprsWithin(list []api.Expr, most int) bool {
	for i := range list {
		if most == 0 || !exprsWithin(list[i].Args, most-1) {
			return false
		}
	}
	return true
}
