package lang_test

import (
	"math"
	"math/rand"
	"strings"

	"larder/api"
)

// drawer: programs, and texts of them, by draws that a seed fixes.
type drawer struct{ *rand.Rand }

func draws(seed int64) drawer { return drawer{rand.New(rand.NewSource(seed))} }

func pick[T any](d drawer, list []T) T { return list[d.Intn(len(list))] }

// someNames: some that begin like words or end like them, too.
var someNames = []string{"a", "b", "m", "n", "x", "_", "__", "A1", "z_9", "maps", "inn", "iff", "Len", "IF", "_has", "prints", "lens", "forfor", "elseif", strings.Repeat("q", 70)}

var someNumbers = []int64{0, 1, 2, 7, 10, 99, 1 << 31, 1<<53 + 1, math.MaxInt64 - 1, math.MaxInt64}

func (d drawer) name() string { return pick(d, someNames) }

// expr: one that is at most so deep.
func (d drawer) expr(deep int) api.Expr {
	if deep <= 1 || d.Intn(6) == 0 {
		switch d.Intn(3) {
		case 0:
			return num(pick(d, someNumbers))
		case 1:
			return name(d.name())
		}
		return length(d.name())
	}
	switch d.Intn(8) {
	case 0:
		return index(d.name(), d.expr(deep-1))
	case 1:
		return has(d.name(), d.expr(deep-1))
	case 2, 3:
		return unary(pick(d, signs), d.expr(deep-1))
	}
	return binary(d.expr(deep-1), pick(d, pick(d, rules)), d.expr(deep-1))
}

func (d drawer) stmts(most, deep int) []api.Stmt {
	var list []api.Stmt
	for range d.Intn(most + 1) {
		list = append(list, d.stmt(deep))
	}
	return list
}

// stmt: one with at most so many blocks in one another.
func (d drawer) stmt(deep int) api.Stmt {
	x := d.expr(4)
	if deep > 0 && d.Intn(2) == 0 {
		switch d.Intn(4) {
		case 0:
			return loop(x, d.stmts(3, deep-1)...)
		case 1:
			return each(d.name(), d.name(), d.name(), d.stmts(3, deep-1)...)
		}
		return cond(x, d.stmts(2, deep-1), d.stmts(2, deep-1))
	}
	switch d.Intn(7) {
	case 0:
		return put(d.name(), d.expr(3), x)
	case 1:
		return del(d.name(), x)
	case 2:
		return empty(d.name())
	case 3:
		var list []api.Expr
		for range d.Intn(4) {
			list = append(list, d.expr(3))
		}
		return show(list...)
	case 4:
		return pick(d, block(leave(), again()))
	}
	return set(d.name(), x)
}

// prog: one that is formed.
func (d drawer) prog() api.Prog {
	var p api.Prog
	for range d.Intn(4) {
		p.Maps = append(p.Maps, d.name())
	}
	p.Stmts = d.stmts(5, 4)
	return p
}

// A text of a program with all that leaves nothing in the tree: brackets around operands and around these again, zeros in front, an Else without statements, or one if in a block of its own. Its tokens stand in a list.

func (d drawer) tokens(p api.Prog) []string {
	var list []string
	for _, m := range p.Maps {
		list = append(list, "map", m, ";")
	}
	return append(list, d.stmtTokens(p.Stmts)...)
}

func (d drawer) blockTokens(list []api.Stmt) []string {
	return append(append([]string{"{"}, d.stmtTokens(list)...), "}")
}

func (d drawer) stmtTokens(list []api.Stmt) []string {
	var out []string
	add := func(parts ...string) { out = append(out, parts...) }
	for _, s := range list {
		switch s.Kind {
		case api.StSet:
			add(s.Name, "=")
			add(d.exprTokens(s.Exprs[0], 0)...)
			add(";")
		case api.StPut:
			add(d.placeTokens(s.Name, s.Exprs[0])...)
			add("=")
			add(d.exprTokens(s.Exprs[1], 0)...)
			add(";")
		case api.StDelete:
			add("delete")
			add(d.placeTokens(s.Name, s.Exprs[0])...)
			add(";")
		case api.StClear:
			add("clear", s.Name, ";")
		case api.StPrint:
			between := "print"
			for _, x := range s.Exprs {
				add(between)
				add(d.exprTokens(x, 0)...)
				between = ","
			}
			if len(s.Exprs) == 0 {
				add(between)
			}
			add(";")
		case api.StBreak:
			add("break", ";")
		case api.StContinue:
			add("continue", ";")
		default:
			add(d.longTokens(s)...)
		}
	}
	return out
}

// longTokens: those of a statement with a block.
func (d drawer) longTokens(s api.Stmt) []string {
	var out []string
	switch s.Kind {
	case api.StRange:
		out = []string{"for", s.Key, ",", s.Val, "in", s.Name}
	case api.StWhile:
		out = append([]string{"while"}, d.exprTokens(s.Exprs[0], 0)...)
	case api.StIf:
		out = append([]string{"if"}, d.exprTokens(s.Exprs[0], 0)...)
	}
	out = append(out, d.blockTokens(s.Body)...)
	switch {
	case s.Kind != api.StIf:
	case len(s.Else) == 1 && s.Else[0].Kind == api.StIf && d.Intn(2) == 0:
		out = append(append(out, "else"), d.longTokens(s.Else[0])...)
	case len(s.Else) > 0 || d.Intn(3) == 0:
		out = append(append(out, "else"), d.blockTokens(s.Else)...)
	}
	return out
}

func (d drawer) placeTokens(m string, k api.Expr) []string {
	return append(append([]string{m, "["}, d.exprTokens(k, 0)...), "]")
}

// exprTokens: those of an expression in a place where operators from that rule down may stand without brackets.
func (d drawer) exprTokens(x api.Expr, rule int) []string {
	if x.Kind == api.ExBinary && ruleOf(x.Op) < rule || d.Intn(8) == 0 {
		return append(append([]string{"("}, d.exprTokens(x, 0)...), ")")
	}
	switch x.Kind {
	case api.ExNum:
		return []string{strings.Repeat("0", d.Intn(3)) + plainText(x)}
	case api.ExName:
		return []string{x.Name}
	case api.ExIndex:
		return d.placeTokens(x.Name, x.Args[0])
	case api.ExHas:
		return append([]string{"has"}, d.placeTokens(x.Name, x.Args[0])...)
	case api.ExLen:
		return []string{"len", x.Name}
	case api.ExUnary:
		return append([]string{x.Op}, d.exprTokens(x.Args[0], len(rules))...)
	}
	at := ruleOf(x.Op)
	left := at
	if at == ruleOf("==") {
		left++
	}
	out := append(d.exprTokens(x.Args[0], left), x.Op)
	return append(out, d.exprTokens(x.Args[1], at+1)...)
}

var someBlanks = []string{" ", "\n", "\t", "\r", "  ", "\r\n", "//\n", "// x = 1;\n", " //\xff\"/*\n//\n", "\n\n\t"}

// joined: the tokens' text, with blanks and remarks wherever two tokens would be others without them, and elsewhere at times.
func (d drawer) joined(tokens []string) string {
	var text strings.Builder
	for i, k := range tokens {
		if i > 0 && (!apart(tokens[i-1], k) || d.Intn(2) == 0) {
			blank := pick(d, someBlanks)
			if !stays(tokens[i-1], blank) {
				blank = " " + blank
			}
			text.WriteString(blank)
		}
		text.WriteString(k)
	}
	return text.String()
}

// apart: do the two stay two tokens without a blank between them?
func apart(k, next string) bool {
	l := plainTokens(k + next)
	return len(l) == 3 && l[0].text == k && l[1].text == next
}

// stays: is the token still that one, with these blanks behind it?
func stays(k, blank string) bool {
	l := plainTokens(k + blank)
	return len(l) == 2 && l[0].text == k
}

// text: one of the program's.
func (d drawer) text(p api.Prog) string { return d.joined(d.tokens(p)) }
