package lang_test

import (
	"math/big"
	"strconv"
	"strings"

	"larder/api"
)

// A plain reader of texts that are known to be programs: statements are cut out by their brackets, expressions are split at the operator that joins last; and a plain writer, which sets an operand in brackets where the reader would else read something else.

type plainTokenList []plainToken

// close: where the bracket ends that is opened at that place.
func (l plainTokenList) close(at int) int {
	deep := 0
	for i := at; ; i++ {
		switch l[i].class {
		case "(", "[", "{":
			deep++
		case ")", "]", "}":
			deep--
		}
		if deep == 0 {
			return i
		}
	}
}

// find: where the first of that class stands from that place on, outside of all brackets of a block.
func (l plainTokenList) find(at int, class string) int {
	for l[at].class != class {
		at++
	}
	return at
}

func plainRead(text string) api.Prog {
	l := plainTokenList(plainTokens(text))
	l = l[:len(l)-1]
	var p api.Prog
	for len(l) > 0 && l[0].class == "map" {
		p.Maps = append(p.Maps, l[1].text)
		l = l[3:]
	}
	p.Stmts = plainStmts(l)
	return p
}

func plainStmts(l plainTokenList) []api.Stmt {
	var list []api.Stmt
	for len(l) > 0 {
		var s api.Stmt
		s, l = plainStmt(l)
		list = append(list, s)
	}
	return list
}

// plainStmt: the first statement of the list, and what stands behind it.
func plainStmt(l plainTokenList) (api.Stmt, plainTokenList) {
	switch l[0].class {
	case "if", "while", "for":
		open := l.find(0, "{")
		shut := l.close(open)
		head, body, rest := l[1:open], plainStmts(l[open+1:shut]), l[shut+1:]
		switch l[0].class {
		case "while":
			return loop(plainExpr(head), body...), rest
		case "for":
			return each(head[0].text, head[2].text, head[4].text, body...), rest
		}
		other, rest := plainElse(rest)
		return cond(plainExpr(head), body, other), rest
	}
	end := l.find(0, ";")
	return plainLine(l[:end]), l[end+1:]
}

func plainElse(l plainTokenList) ([]api.Stmt, plainTokenList) {
	switch {
	case len(l) == 0 || l[0].class != "else":
		return nil, l
	case l[1].class == "if":
		s, rest := plainStmt(l[1:])
		return block(s), rest
	}
	shut := l.close(1)
	return plainStmts(l[2:shut]), l[shut+1:]
}

// plainLine: a statement without a block, given without its end.
func plainLine(l plainTokenList) api.Stmt {
	switch l[0].class {
	case "delete":
		return del(l[1].text, plainExpr(l[3:len(l)-1]))
	case "clear":
		return empty(l[1].text)
	case "break":
		return leave()
	case "continue":
		return again()
	case "print":
		return show(plainList(l[1:])...)
	}
	if l[1].class == "=" {
		return set(l[0].text, plainExpr(l[2:]))
	}
	shut := l.close(1)
	return put(l[0].text, plainExpr(l[2:shut]), plainExpr(l[shut+2:]))
}

func plainList(l plainTokenList) []api.Expr {
	var list []api.Expr
	for len(l) > 0 {
		end := 0
		for end < len(l) && l[end].class != "," {
			end++
		}
		list = append(list, plainExpr(l[:end]))
		l = l[min(end+1, len(l)):]
	}
	return list
}

func plainExpr(l plainTokenList) api.Expr {
	x, fine := splitExpr(l)
	if !fine {
		panic("no expression")
	}
	return x
}

// joins: where the operators between two operands stand that are outside of all brackets.
func (l plainTokenList) joins() []int {
	var list []int
	for i := 0; i < len(l); i++ {
		switch l[i].class {
		case "(", "[":
			i = l.close(i)
		default:
			behind := i > 0 && strings.Contains(" NAME NUMBER ) ] ", " "+l[i-1].class+" ")
			if behind && ruleOf(l[i].class) >= 0 {
				list = append(list, i)
			}
		}
	}
	return list
}

// splitExpr: false, if two comparisons stand beside one another.
func splitExpr(l plainTokenList) (api.Expr, bool) {
	last, count := -1, 0
	for _, i := range l.joins() {
		switch {
		case last < 0 || ruleOf(l[i].class) < ruleOf(l[last].class):
			last, count = i, 1
		case ruleOf(l[i].class) == ruleOf(l[last].class):
			last, count = i, count+1
		}
	}
	if last < 0 {
		return oneExpr(l)
	}
	x, fineX := splitExpr(l[:last])
	y, fineY := splitExpr(l[last+1:])
	return binary(x, l[last].class, y), fineX && fineY && (count == 1 || ruleOf(l[last].class) != ruleOf("=="))
}

// oneExpr: one that no operator joins.
func oneExpr(l plainTokenList) (api.Expr, bool) {
	switch l[0].class {
	case "-", "!":
		x, fine := splitExpr(l[1:])
		return unary(l[0].class, x), fine
	case "(":
		return splitExpr(l[1 : len(l)-1])
	case "has":
		k, fine := splitExpr(l[3 : len(l)-1])
		return has(l[1].text, k), fine
	case "len":
		return length(l[1].text), true
	case numberClass:
		n, _ := new(big.Int).SetString(l[0].text, 10)
		return num(n.Int64()), true
	}
	if len(l) == 1 {
		return name(l[0].text), true
	}
	k, fine := splitExpr(l[2 : len(l)-1])
	return index(l[0].text, k), fine
}

// isRead: are these tokens read as that expression?
func isRead(text string, want api.Expr) bool {
	l := plainTokenList(plainTokens(text))
	x, fine := splitExpr(l[:len(l)-1])
	return fine && same(prog(show(x)), prog(show(want)))
}

// plainText: the expression's text, by the words of P23.2 for brackets.
func plainText(x api.Expr) string {
	switch x.Kind {
	case api.ExNum:
		return strconv.FormatInt(x.Num, 10)
	case api.ExName:
		return x.Name
	case api.ExIndex:
		return x.Name + "[" + plainText(x.Args[0]) + "]"
	case api.ExHas:
		return "has " + x.Name + "[" + plainText(x.Args[0]) + "]"
	case api.ExLen:
		return "len " + x.Name
	case api.ExUnary:
		y := plainText(x.Args[0])
		if !isRead(x.Op+y, x) {
			y = "(" + y + ")"
		}
		return x.Op + y
	}
	left, right := plainText(x.Args[0]), plainText(x.Args[1])
	between := " " + x.Op + " "
	bareLeft, bareRight := isRead(left+between+"("+right+")", x), isRead("("+left+")"+between+right, x)
	if !bareLeft {
		left = "(" + left + ")"
	}
	if !bareRight {
		right = "(" + right + ")"
	}
	return left + between + right
}

// plainPrint: the text of a program that is formed.
func plainPrint(p api.Prog) string {
	var lines []string
	for _, m := range p.Maps {
		lines = append(lines, "map "+m+";")
	}
	lines = append(lines, plainLines(p.Stmts, 0)...)
	if lines == nil {
		return ""
	}
	return strings.Join(lines, "\n") + "\n"
}

// plainLines: those of statements that lie in so many blocks.
func plainLines(list []api.Stmt, deep int) []string {
	tab := strings.Repeat("\t", min(deep, 8))
	var lines []string
	for _, s := range list {
		switch s.Kind {
		case api.StWhile:
			lines = append(lines, tab+"while "+plainText(s.Exprs[0])+" {")
			lines = append(append(lines, plainLines(s.Body, deep+1)...), tab+"}")
		case api.StRange:
			lines = append(lines, tab+"for "+s.Key+", "+s.Val+" in "+s.Name+" {")
			lines = append(append(lines, plainLines(s.Body, deep+1)...), tab+"}")
		case api.StIf:
			begin := tab
			for {
				lines = append(lines, begin+"if "+plainText(s.Exprs[0])+" {")
				lines = append(lines, plainLines(s.Body, deep+1)...)
				if len(s.Else) != 1 || s.Else[0].Kind != api.StIf {
					break
				}
				begin, s = tab+"} else ", s.Else[0]
			}
			if len(s.Else) > 0 {
				lines = append(append(lines, tab+"} else {"), plainLines(s.Else, deep+1)...)
			}
			lines = append(lines, tab+"}")
		default:
			lines = append(lines, tab+plainLineText(s)+";")
		}
	}
	return lines
}

func plainLineText(s api.Stmt) string {
	var texts []string
	for _, x := range s.Exprs {
		texts = append(texts, plainText(x))
	}
	switch s.Kind {
	case api.StSet:
		return s.Name + " = " + texts[0]
	case api.StPut:
		return s.Name + "[" + texts[0] + "] = " + texts[1]
	case api.StDelete:
		return "delete " + s.Name + "[" + texts[0] + "]"
	case api.StClear:
		return "clear " + s.Name
	case api.StBreak:
		return "break"
	case api.StContinue:
		return "continue"
	}
	return strings.TrimSuffix("print "+strings.Join(texts, ", "), " ")
}
