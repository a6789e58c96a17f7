package code_test

import (
	"fmt"
	"regexp"
	"slices"
	"strings"

	"larder/api"
	"larder/lang"
)

// The chapter's two tables of code once more, in another way: each row as it stands there, filled in line by line; labels are made places at the end.

const (
	setRow      = "tick, x, store v"
	putRow      = "tick, k, y, put m"
	deleteRow   = "tick, x, del m"
	clearRow    = "tick, clear m"
	ifRow       = "tick, x, zero L1, body, L1:"
	elseRow     = "tick, x, zero L1, body, jump L2, L1:, else, L2:"
	whileRow    = "L0:, tick, x, zero L1, body, jump L0, L1:"
	rangeRow    = "tick, open m, L0:, tick, next L1, store val, store key, body, jump L0, L1:"
	breakRow    = "tick, close, jump loop1"
	continueRow = "tick, jump loop0"
	andRow      = "x, zero Lf, y, zero Lf, push 1, jump Le, Lf:, push 0, Le:"
	orRow       = "x, zero L1, jump Lt, L1:, y, zero Lf, Lt:, push 1, jump Le, Lf:, push 0, Le:"
)

var operatorNames = map[string]string{"+": "add", "-": "sub", "*": "mul", "/": "div", "%": "rem", "==": "eq", "!=": "ne", "<": "lt", "<=": "le", ">": "gt", ">=": "ge"}

// filler: fills the tables' rows in.
type filler struct {
	numbers map[string]int // of the maps, and of the variables
	labels  int            // so many rows had labels
}

var namePattern = regexp.MustCompile(`[A-Za-z_][A-Za-z_0-9]*`)

const notNames = " map delete clear print if else while for in break continue has len "

// numbersOf: the numbers of the maps, and of the variables as they stand in the program's text; how many of these there are.
func numbersOf(p api.Prog) (numbers map[string]int, vars int) {
	numbers = map[string]int{}
	for i, name := range p.Maps {
		numbers[name] = i
	}
	for _, name := range namePattern.FindAllString(lang.Print(p), -1) {
		if _, known := numbers[name]; !known && !strings.Contains(notNames, " "+name+" ") {
			numbers[name] = vars
			vars++
		}
	}
	return numbers, vars
}

// plainCompile: the code of a program that lang.Check lets in.
func plainCompile(p api.Prog) api.Code {
	numbers, vars := numbersOf(p)
	f := &filler{numbers: numbers}
	return placed(f.list(p.Stmts, "", false), vars, len(p.Maps))
}

// placed: the code of lines whose labels stand on lines of their own.
func placed(lines []string, vars, maps int) api.Code {
	places, at := map[string]string{}, 0
	for _, line := range lines {
		if label, is := strings.CutSuffix(line, ":"); is {
			places[label] = fmt.Sprint(at)
		} else {
			at++
		}
	}
	c := api.Code{Vars: vars, Maps: maps}
	for _, line := range lines {
		if strings.HasSuffix(line, ":") {
			continue
		}
		words := strings.Fields(line)
		if place, is := places[words[len(words)-1]]; is {
			words[1] = place
		}
		in, right := plainInst(words)
		if !right {
			panic("the test has no line " + line)
		}
		c.Insts = append(c.Insts, in)
	}
	return c
}

// fill: a row's lines. The parts are what its words stand for: whole lines, or the number behind a name.
func (f *filler) fill(row, loop string, parts map[string][]string) []string {
	f.labels++
	var lines []string
	for _, line := range strings.Split(row, ", ") {
		if part, whole := parts[line]; whole {
			lines = append(lines, part...)
			continue
		}
		words := strings.Fields(line)
		last := len(words) - 1
		switch part, known := parts[words[last]]; {
		case known:
			words[last] = part[0]
		case strings.HasPrefix(words[last], "L"):
			words[last] = strings.Replace(words[last], "L", fmt.Sprint("L", f.labels, "."), 1)
		case strings.HasPrefix(words[last], "loop"):
			words[last] = strings.Replace(words[last], "loop", loop, 1)
		}
		lines = append(lines, strings.Join(words, " "))
	}
	return lines
}

// list: the lines of statements within a loop with these labels; ranged: it is a range.
func (f *filler) list(stmts []api.Stmt, loop string, ranged bool) []string {
	var lines []string
	for _, s := range stmts {
		lines = append(lines, f.stmt(s, loop, ranged)...)
	}
	return lines
}

func (f *filler) number(name string) []string { return []string{fmt.Sprint(f.numbers[name])} }

func (f *filler) stmt(s api.Stmt, loop string, ranged bool) []string {
	parts := map[string][]string{"v": f.number(s.Name), "m": f.number(s.Name), "key": f.number(s.Key), "val": f.number(s.Val)}
	var all []string
	for i, x := range s.Exprs {
		lines := f.expr(x)
		all = append(all, lines...)
		parts[[]string{"x", "y", "more"}[min(i, 2)]] = lines
	}
	parts["k"] = parts["x"]
	switch s.Kind {
	case api.StPrint:
		return slices.Concat([]string{"tick"}, all, []string{fmt.Sprint("print ", len(s.Exprs))})
	case api.StBreak:
		row := breakRow
		if !ranged {
			row = strings.Replace(row, "close, ", "", 1)
		}
		return f.fill(row, loop, parts)
	case api.StWhile, api.StRange:
		row := map[int]string{api.StWhile: whileRow, api.StRange: rangeRow}[s.Kind]
		lines := f.fill(row, loop, parts)
		own := fmt.Sprint("L", f.labels, ".")
		at := slices.Index(lines, "body")
		return slices.Concat(lines[:at], f.list(s.Body, own, s.Kind == api.StRange), lines[at+1:])
	case api.StIf:
		parts["body"] = f.list(s.Body, loop, ranged)
		if len(s.Else) == 0 {
			return f.fill(ifRow, loop, parts)
		}
		parts["else"] = f.list(s.Else, loop, ranged)
		return f.fill(elseRow, loop, parts)
	}
	return f.fill(map[int]string{api.StSet: setRow, api.StPut: putRow, api.StDelete: deleteRow, api.StClear: clearRow, api.StContinue: continueRow}[s.Kind], loop, parts)
}

func (f *filler) expr(x api.Expr) []string {
	parts := map[string][]string{}
	var all []string
	for i, arg := range x.Args {
		lines := f.expr(arg)
		all = append(all, lines...)
		parts[[]string{"x", "y"}[i]] = lines
	}
	own := ""
	switch x.Kind {
	case api.ExNum:
		own = fmt.Sprint("push ", x.Num)
	case api.ExName:
		own = "load " + f.number(x.Name)[0]
	case api.ExIndex:
		own = "get " + f.number(x.Name)[0]
	case api.ExHas:
		own = "has " + f.number(x.Name)[0]
	case api.ExLen:
		own = "len " + f.number(x.Name)[0]
	case api.ExUnary:
		own = map[string]string{"-": "neg", "!": "not"}[x.Op]
	case api.ExBinary:
		switch x.Op {
		case "&&":
			return f.fill(andRow, "", parts)
		case "||":
			return f.fill(orRow, "", parts)
		}
		own = operatorNames[x.Op]
	}
	return append(all, own)
}
