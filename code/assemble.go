package code

import (
	"strconv"
	"strings"

	"larder/api"
)

// linesOf: a text's lines. What stands behind the last line feed is one, unless it is empty.
func linesOf(text string) []string {
	lines := strings.Split(text, "\n")
	if last := len(lines) - 1; lines[last] == "" {
		return lines[:last]
	}
	return lines
}

// wordsOf: a line's words, up to its remark.
func wordsOf(line string) []string {
	words := strings.FieldsFunc(line, func(c rune) bool { return c == ' ' || c == '\t' })
	for i, word := range words {
		if word[0] == '#' {
			return words[:i]
		}
	}
	return words
}

// readHead: the code's numbers of variables and maps are those that its first line tells; false, if it is no such line.
func readHead(c *api.Code, word string, fields []string) bool {
	numbers, right := numbersOf(fields)
	if !right || word != codeWord || len(numbers) != 2 {
		return false
	}
	c.Vars, c.Maps = int(numbers[0]), int(numbers[1])
	return true
}

// readInst: the code has the instruction more that a line tells; false, if it tells none.
func readInst(c *api.Code, word string, fields []string) bool {
	numbers, right := numbersOf(fields)
	if !right {
		return false
	}
	in, right := instOf(word, numbers)
	if right {
		c.Insts = append(c.Insts, in)
	}
	return right
}

// instOf: the instruction that a word and numbers tell.
func instOf(word string, numbers []int64) (api.Inst, bool) {
	if word == instWord {
		if len(numbers) != 3 {
			return api.Inst{}, false
		}
		return api.Inst{Op: int(numbers[0]), A: int(numbers[1]), N: numbers[2]}, true
	}
	op := opNamed(word)
	uses := forms[op].uses
	switch {
	case op == 0:
		return api.Inst{}, false
	case uses == nothing:
		return api.Inst{Op: op}, len(numbers) == 0
	case len(numbers) != 1:
		return api.Inst{}, false
	case uses == aNumber:
		return api.Inst{Op: op, N: numbers[0]}, true
	}
	return api.Inst{Op: op, A: int(numbers[0])}, true
}

// numbersOf: what words say that are to be numbers; false, if one is none, or out of range.
func numbersOf(words []string) ([]int64, bool) {
	var list []int64
	for _, word := range words {
		// ParseInt alone would take a plus sign, too.
		if strings.HasPrefix(word, "+") {
			return nil, false
		}
		n, err := strconv.ParseInt(word, 10, 64)
		if err != nil {
			return nil, false
		}
		list = append(list, n)
	}
	return list, true
}
