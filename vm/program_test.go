package vm_test

import (
	"fmt"
	"strings"
)

func (d drawer) variable() string { return pick(d, "a", "b", "c", "x") }

func (d drawer) mapName() string { return pick(d, "m", "n") }

// expr: the text of one in brackets, of which at most so many lie in one another.
func (d drawer) expr(deep int) string {
	if deep <= 1 || d.Intn(5) == 0 {
		return pick(d, "0", "1", "2", "5", "9223372036854775807", d.variable(), d.variable(), d.variable(), "len "+d.mapName())
	}
	switch d.Intn(8) {
	case 0, 1:
		return fmt.Sprintf("%s[%s]", d.mapName(), d.expr(deep-1))
	case 2:
		return fmt.Sprintf("(has %s[%s])", d.mapName(), d.expr(deep-1))
	case 3:
		return fmt.Sprintf("(%s%s)", pick(d, "-", "!"), d.expr(deep-1))
	}
	op := pick(d, "+", "-", "*", "/", "%", "==", "!=", "<", "<=", ">", ">=", "&&", "||", "+", "-", "+", "-")
	return fmt.Sprintf("(%s %s %s)", d.expr(deep-1), op, d.expr(deep-1))
}

// block: the text of some statements, with at most so many blocks in one another; within: they lie in a loop.
func (d drawer) block(most, deep int, within bool) string {
	text := ""
	for range d.Intn(most + 1) {
		text += d.stmt(deep, within) + "\n"
	}
	return text
}

func (d drawer) stmt(deep int, within bool) string {
	if deep > 0 && d.Intn(2) == 0 {
		switch d.Intn(6) {
		case 0:
			return fmt.Sprintf("while %s { %s}", d.expr(3), d.block(4, deep-1, true))
		case 1, 2, 3:
			return fmt.Sprintf("for %s, %s in %s { %s}", d.variable(), d.variable(), d.mapName(), d.block(4, deep-1, true))
		case 4:
			return fmt.Sprintf("if %s { %s} else { %s}", d.expr(3), d.block(3, deep-1, within), d.block(3, deep-1, within))
		}
		return fmt.Sprintf("if %s { %s}", d.expr(3), d.block(3, deep-1, within))
	}
	if within && d.Intn(6) == 0 {
		return pick(d, "break;", "continue;")
	}
	switch d.Intn(10) {
	case 0, 1, 2:
		return fmt.Sprintf("%s[%s] = %s;", d.mapName(), d.expr(3), d.expr(2))
	case 3:
		return fmt.Sprintf("delete %s[%s];", d.mapName(), d.expr(2))
	case 4:
		return pick(d, "print;", "print;", "clear "+d.mapName()+";")
	case 5, 6, 7:
		list := []string{d.variable(), d.expr(2), d.expr(3)}
		return "print " + strings.Join(list[:1+d.Intn(3)], ", ") + ";"
	}
	return fmt.Sprintf("%s = %s;", d.variable(), d.expr(3))
}

// program: the text of one that lang.Check lets in; its maps hold something when it begins.
func (d drawer) program() string {
	text := pick(d, "map m; map n;", "map n; map m;", "map unused; map m; map n; map last;") + "\n"
	if d.Intn(3) > 0 {
		text += fmt.Sprintf("while i < %d { m[i] = i * i; n[i * 3] = 0 - i; i = i + 1; }\n", d.Intn(14))
	}
	return text + d.block(6, 4, false)
}
