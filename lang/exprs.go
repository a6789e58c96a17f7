package lang

import "larder/api"

func (r *reader) expr() api.Expr { return r.joined(orRule) }

// joined: what that rule reads: operands of the next rule, joined from the left.
func (r *reader) joined(rule int) api.Expr {
	if rule == unaryRule {
		return r.unary()
	}
	x := r.joined(rule + 1)
	for r.now.kind == fixedToken && ruleOf(r.now.text) == rule {
		op := r.take()
		y := r.joined(rule + 1)
		x = api.Expr{Kind: api.ExBinary, Op: op, Args: []api.Expr{x, y}}
		if rule == cmpRule { // of comparisons there is one at most
			break
		}
	}
	return x
}

func (r *reader) unary() api.Expr {
	if r.now.kind == fixedToken && isUnary(r.now.text) {
		op := r.take()
		return api.Expr{Kind: api.ExUnary, Op: op, Args: []api.Expr{r.unary()}}
	}
	return r.prim()
}

func (r *reader) prim() api.Expr {
	switch {
	case r.now.kind == numberToken:
		return api.Expr{Kind: api.ExNum, Num: r.number()}
	case r.met("has"):
		name := r.name()
		return api.Expr{Kind: api.ExHas, Name: name, Args: []api.Expr{r.key()}}
	case r.met("len"):
		return api.Expr{Kind: api.ExLen, Name: r.name()}
	case r.met("("):
		x := r.expr()
		r.must(")")
		return x
	}
	name := r.name()
	if r.is("[") {
		return api.Expr{Kind: api.ExIndex, Name: name, Args: []api.Expr{r.key()}}
	}
	return api.Expr{Kind: api.ExName, Name: name}
}

// key: the expression in brackets [ ] behind a map's name.
func (r *reader) key() api.Expr {
	r.must("[")
	x := r.expr()
	r.must("]")
	return x
}
