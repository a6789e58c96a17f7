package script

import (
	"strings"

	"larder/api"
)

// Print: the script's text.
func Print(s api.Script) string {
	var text strings.Builder
	text.WriteString(lineText(limitLine, api.Cmd{N: s.Limit}))
	for _, o := range s.Over {
		text.WriteString(lineText(hashLine, api.Cmd{Key: o.Key, U: o.Hash}))
	}
	for _, c := range s.Cmds {
		text.WriteString(lineText(commandLine, c))
	}
	return text.String()
}

// lineText: a line of that kind, with its line feed; nothing, where the command's Op is none of the table's.
func lineText(kind int, c api.Cmd) string {
	r, known := rowOf(kind, c.Op)
	if !known {
		return ""
	}
	words := []string{r.name}
	for _, place := range r.form {
		words = append(words, fieldWords(c, place)...)
	}
	return strings.Join(words, " ") + "\n"
}

// fieldWords: what lies in that place of the command: a word, or as many as there are numbers.
func fieldWords(c api.Cmd, place rune) []string {
	switch place {
	case 'H':
		return []string{numberText(c.H)}
	case 'N':
		return []string{numberText(c.N)}
	case 'U':
		return []string{word64Text(c.U)}
	case 'V':
		return []string{word64Text(c.V)}
	case 'K':
		return []string{bytesText(c.Key)}
	case 'E':
		return []string{bytesText(c.Elem)}
	case 'F':
		return numberTexts(c.Fields)
	case 'S':
		return numberTexts(c.Hs)
	}
	return nil
}

func numberTexts(list []int) []string {
	var words []string
	for _, n := range list {
		words = append(words, numberText(n))
	}
	return words
}
