package lang

import "larder/api"

func (r *reader) program() api.Prog {
	var p api.Prog
	for r.met("map") {
		p.Maps = append(p.Maps, r.name())
		r.must(";")
	}
	for r.now.kind != endToken {
		p.Stmts = append(p.Stmts, r.stmt())
	}
	return p
}

func (r *reader) block() []api.Stmt {
	var list []api.Stmt
	r.must("{")
	for !r.met("}") {
		list = append(list, r.stmt())
	}
	return list
}

func (r *reader) stmt() api.Stmt {
	switch {
	case r.is("if"):
		return r.ifStmt()
	case r.met("while"):
		x := r.expr()
		return api.Stmt{Kind: api.StWhile, Exprs: []api.Expr{x}, Body: r.block()}
	case r.met("for"):
		return r.rangeStmt()
	}
	s := r.plainStmt()
	r.must(";")
	return s
}

// plainStmt: one that has no block, up to the mark that ends it.
func (r *reader) plainStmt() api.Stmt {
	switch {
	case r.met("delete"):
		name := r.name()
		return api.Stmt{Kind: api.StDelete, Name: name, Exprs: []api.Expr{r.key()}}
	case r.met("clear"):
		return api.Stmt{Kind: api.StClear, Name: r.name()}
	case r.met("print"):
		return api.Stmt{Kind: api.StPrint, Exprs: r.printed()}
	case r.met("break"):
		return api.Stmt{Kind: api.StBreak}
	case r.met("continue"):
		return api.Stmt{Kind: api.StContinue}
	}
	return r.assignment()
}

func (r *reader) assignment() api.Stmt {
	s := api.Stmt{Kind: api.StSet, Name: r.name()}
	if r.is("[") {
		s.Kind = api.StPut
		s.Exprs = append(s.Exprs, r.key())
	}
	r.must("=")
	s.Exprs = append(s.Exprs, r.expr())
	return s
}

// printed: the expressions behind the word print.
func (r *reader) printed() []api.Expr {
	if r.is(";") {
		return nil
	}
	list := []api.Expr{r.expr()}
	for r.met(",") {
		list = append(list, r.expr())
	}
	return list
}

func (r *reader) ifStmt() api.Stmt {
	r.must("if")
	x := r.expr()
	s := api.Stmt{Kind: api.StIf, Exprs: []api.Expr{x}, Body: r.block()}
	if !r.met("else") {
		return s
	}
	if r.is("if") {
		s.Else = []api.Stmt{r.ifStmt()}
	} else {
		s.Else = r.block()
	}
	return s
}

// rangeStmt: what stands behind the word for.
func (r *reader) rangeStmt() api.Stmt {
	s := api.Stmt{Kind: api.StRange, Key: r.name()}
	r.must(",")
	s.Val = r.name()
	r.must("in")
	s.Name = r.name()
	s.Body = r.block()
	return s
}
