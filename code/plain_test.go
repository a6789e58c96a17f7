package code_test

import (
	"fmt"
	"math/big"
	"regexp"
	"strings"

	"larder/api"
)

// The chapter's words about code and its text once more, in another way: its table as it stands there, patterns, big numbers, formats.

// chapterTable: each row an Op, its name, what it uses, what it takes and what it lays.
const chapterTable = `
1 push number 0 1
2 load variable 0 1
3 store variable 1 0
4 get map 1 1
5 has map 1 1
6 len map 0 1
7 neg nothing 1 1
8 not nothing 1 1
9 add nothing 2 1
10 sub nothing 2 1
11 mul nothing 2 1
12 div nothing 2 1
13 rem nothing 2 1
14 eq nothing 2 1
15 ne nothing 2 1
16 lt nothing 2 1
17 le nothing 2 1
18 gt nothing 2 1
19 ge nothing 2 1
20 put map 2 0
21 del map 1 0
22 clear map 0 0
23 print many A 0
24 jump place 0 0
25 zero place 1 0
26 open map 0 0
27 next place 0 2
28 close nothing 0 0
29 tick nothing 0 0
`

// row: of the chapter's table. Where it takes as many as A says, takes is below 0.
type row struct {
	op          int
	name, uses  string
	takes, lays int
}

var rows = tableRows()

func tableRows() []row {
	var list []row
	for _, line := range strings.Split(strings.TrimSpace(chapterTable), "\n") {
		var r row
		if _, err := fmt.Sscan(strings.Replace(line, " A ", " -1 ", 1), &r.op, &r.name, &r.uses, &r.takes, &r.lays); err != nil {
			panic(err)
		}
		list = append(list, r)
	}
	return list
}

func rowOf(op int) (row, bool) {
	if op < 1 || op > len(rows) {
		return row{}, false
	}
	return rows[op-1], true
}

// unused: are the numbers 0 that the row doesn't use?
func (r row) unused(in api.Inst) bool {
	switch r.uses {
	case "nothing":
		return in.A == 0 && in.N == 0
	case "number":
		return in.A == 0
	}
	return in.N == 0
}

func plainText(c api.Code) string {
	lines := []string{fmt.Sprint("code ", c.Vars, " ", c.Maps)}
	for _, in := range c.Insts {
		r, known := rowOf(in.Op)
		line := fmt.Sprint(r.name, " ", in.A)
		switch {
		case !known || !r.unused(in):
			line = fmt.Sprint("inst ", in.Op, " ", in.A, " ", in.N)
		case r.uses == "number":
			line = fmt.Sprint(r.name, " ", in.N)
		case r.uses == "nothing":
			line = r.name
		}
		lines = append(lines, line)
	}
	return strings.Join(lines, "\n") + "\n"
}

var (
	linePattern   = regexp.MustCompile(`[^\n]*\n|[^\n]+`)
	wordPattern   = regexp.MustCompile(`[^ \t\n]+`)
	remarkPattern = regexp.MustCompile(`(^|[ \t])#.*`)
	numberPattern = regexp.MustCompile(`^-?[0-9]+$`)
)

// bytewise: the text with each byte above 127 as a letter, so that patterns look at bytes.
func bytewise(text string) string {
	b := []byte(text)
	for i := range b {
		if b[i] > 127 {
			b[i] = 'Z'
		}
	}
	return string(b)
}

func plainNumber(word string) (int64, bool) {
	if !numberPattern.MatchString(word) {
		return 0, false
	}
	n, _ := new(big.Int).SetString(word, 10)
	return n.Int64(), n.IsInt64()
}

func plainInst(words []string) (api.Inst, bool) {
	var numbers []int64
	for _, word := range words[1:] {
		n, right := plainNumber(word)
		if !right {
			return api.Inst{}, false
		}
		numbers = append(numbers, n)
	}
	if words[0] == "inst" && len(numbers) == 3 {
		return api.Inst{Op: int(numbers[0]), A: int(numbers[1]), N: numbers[2]}, true
	}
	for _, r := range rows {
		switch {
		case r.name != words[0]:
		case r.uses == "nothing" && len(numbers) == 0:
			return api.Inst{Op: r.op}, true
		case r.uses == "number" && len(numbers) == 1:
			return api.Inst{Op: r.op, N: numbers[0]}, true
		case r.uses != "nothing" && len(numbers) == 1:
			return api.Inst{Op: r.op, A: int(numbers[0])}, true
		}
	}
	return api.Inst{}, false
}

func plainAssemble(text string) (api.Code, int, api.Errno) {
	if len(text) > 1048576 {
		return api.Code{}, 0, api.ErrAsm
	}
	var c api.Code
	begun := false
	lines := linePattern.FindAllString(bytewise(text), -1)
	for i, line := range lines {
		words := wordPattern.FindAllString(remarkPattern.ReplaceAllString(strings.TrimSuffix(line, "\n"), ""), -1)
		if len(words) == 0 {
			continue
		}
		in, right := plainInst(words)
		if !begun {
			in, right = plainInst(append(append([]string{"inst"}, words[1:]...), "0"))
			right = right && words[0] == "code"
			c.Vars, c.Maps = in.Op, in.A
		} else {
			c.Insts = append(c.Insts, in)
		}
		if !right {
			return api.Code{}, i + 1, api.ErrAsm
		}
		begun = true
	}
	if !begun {
		return api.Code{}, len(lines) + 1, api.ErrAsm
	}
	return c, 0, api.OK
}
