package lang_test

import (
	"slices"

	"larder/api"
)

// uses: what a kind of statements or expressions uses, by the chapter's two tables.
type uses struct {
	name        byte // 'm': a map's, 'v': a variable's, 0: none
	loop        bool // Key and Val
	num         bool
	ops         []string
	parts       int // -1: any number of them
	body, other bool
}

func usesOfStmt(kind int) (uses, bool) {
	switch kind {
	case api.StSet:
		return uses{name: 'v', parts: 1}, true
	case api.StPut:
		return uses{name: 'm', parts: 2}, true
	case api.StDelete:
		return uses{name: 'm', parts: 1}, true
	case api.StClear:
		return uses{name: 'm'}, true
	case api.StPrint:
		return uses{parts: -1}, true
	case api.StIf:
		return uses{parts: 1, body: true, other: true}, true
	case api.StWhile:
		return uses{parts: 1, body: true}, true
	case api.StRange:
		return uses{name: 'm', loop: true, body: true}, true
	case api.StBreak, api.StContinue:
		return uses{}, true
	}
	return uses{}, false
}

func usesOfExpr(kind int) (uses, bool) {
	switch kind {
	case api.ExNum:
		return uses{num: true}, true
	case api.ExName:
		return uses{name: 'v'}, true
	case api.ExIndex, api.ExHas:
		return uses{name: 'm', parts: 1}, true
	case api.ExLen:
		return uses{name: 'm'}, true
	case api.ExUnary:
		return uses{ops: signs, parts: 1}, true
	case api.ExBinary:
		return uses{ops: operators(), parts: 2}, true
	}
	return uses{}, false
}

func nameRight(s string, used bool) bool { return used && isPlainName(s) || !used && s == "" }

func stmtRight(s api.Stmt) bool {
	u, known := usesOfStmt(s.Kind)
	return known && nameRight(s.Name, u.name != 0) && nameRight(s.Key, u.loop) && nameRight(s.Val, u.loop) &&
		(u.parts < 0 || u.parts == len(s.Exprs)) && (u.body || len(s.Body) == 0) && (u.other || len(s.Else) == 0)
}

func exprRight(x api.Expr) bool {
	u, known := usesOfExpr(x.Kind)
	opRight := u.ops == nil && x.Op == "" || slices.Contains(u.ops, x.Op)
	return known && nameRight(x.Name, u.name != 0) && opRight && u.parts == len(x.Args) && (x.Num == 0 || u.num && x.Num > 0)
}

// inAll: all statements and expressions of a program, at every depth.
func inAll(p api.Prog) (stmts []api.Stmt, exprs []api.Expr) {
	stmts = slices.Clone(p.Stmts)
	for i := 0; i < len(stmts); i++ {
		exprs = append(exprs, stmts[i].Exprs...)
		stmts = append(append(stmts, stmts[i].Body...), stmts[i].Else...)
	}
	for i := 0; i < len(exprs); i++ {
		exprs = append(exprs, exprs[i].Args...)
	}
	return stmts, exprs
}

func plainFormed(p api.Prog) bool {
	stmts, exprs := inAll(p)
	return !slices.ContainsFunc(p.Maps, func(m string) bool { return !isPlainName(m) }) &&
		!slices.ContainsFunc(stmts, func(s api.Stmt) bool { return !stmtRight(s) }) &&
		!slices.ContainsFunc(exprs, func(x api.Expr) bool { return !exprRight(x) })
}

// plainUsed: is each name used as what it is? The program is formed.
func plainUsed(p api.Prog) bool {
	var asMap, asVar []string
	add := func(name string, what byte) {
		switch what {
		case 'm':
			asMap = append(asMap, name)
		case 'v':
			asVar = append(asVar, name)
		}
	}
	stmts, exprs := inAll(p)
	for _, s := range stmts {
		u, _ := usesOfStmt(s.Kind)
		add(s.Name, u.name)
		if u.loop {
			add(s.Key, 'v')
			add(s.Val, 'v')
		}
	}
	for _, x := range exprs {
		u, _ := usesOfExpr(x.Kind)
		add(x.Name, u.name)
	}
	isMap := func(name string) bool { return slices.Contains(p.Maps, name) }
	return !slices.ContainsFunc(asVar, isMap) && !slices.ContainsFunc(asMap, func(name string) bool { return !isMap(name) })
}

// strays: has the list a break or a continue that lies in no loop of its own?
func strays(list []api.Stmt) bool {
	return slices.ContainsFunc(list, func(s api.Stmt) bool {
		switch s.Kind {
		case api.StBreak, api.StContinue:
			return true
		case api.StIf:
			return strays(s.Body) || strays(s.Else)
		}
		return false
	})
}

func depthOfExprs(list []api.Expr) int {
	most := 0
	for _, x := range list {
		most = max(most, 1+depthOfExprs(x.Args))
	}
	return most
}

func depthOf(list []api.Stmt) int {
	most := 0
	for _, s := range list {
		most = max(most, 1+max(depthOfExprs(s.Exprs), depthOf(s.Body), depthOf(s.Else)))
	}
	return most
}

// plainCheck: what P23.6 says.
func plainCheck(p api.Prog) api.Errno {
	for i, m := range p.Maps {
		if len(p.Maps) > 16 || !isPlainName(m) || slices.Index(p.Maps, m) != i {
			return api.ErrNames
		}
	}
	switch {
	case !plainFormed(p) || !plainUsed(p):
		return api.ErrUse
	case strays(p.Stmts):
		return api.ErrLoop
	case depthOf(p.Stmts) > 64:
		return api.ErrDeep
	}
	return api.OK
}
