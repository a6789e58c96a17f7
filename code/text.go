package code

import (
	"strconv"
	"strings"

	"larder/api"
)

// The words of a text that are no instruction's name.
const (
	codeWord = "code"
	instWord = "inst"
)

// writeLine: a line of a word and numbers.
func writeLine(text *strings.Builder, word string, numbers ...int64) {
	text.WriteString(word)
	for _, n := range numbers {
		text.WriteByte(' ')
		text.WriteString(strconv.FormatInt(n, 10))
	}
	text.WriteByte('\n')
}

// writeInst: an instruction's line.
func writeInst(text *strings.Builder, in api.Inst) {
	if !isForm(in) {
		writeLine(text, instWord, int64(in.Op), int64(in.A), in.N)
		return
	}
	switch f := forms[in.Op]; f.uses {
	case nothing:
		writeLine(text, f.name)
	case aNumber:
		writeLine(text, f.name, in.N)
	default:
		writeLine(text, f.name, int64(in.A))
	}
}
