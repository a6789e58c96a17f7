package script

import (
	"strings"

	"larder/api"
)

// Show: an answer's line, without its end.
func Show(a api.Answer) string {
	r, known := rowOf(commandLine, a.Op)
	if !known {
		return ""
	}
	words := []string{r.name}
	if a.Err != api.OK {
		words = append(words, "error", numberText(int(a.Err)))
	} else {
		words = append(words, answerWords(a)...)
	}
	return strings.Join(words, " ")
}

// answerWords: what stands behind the name, where there is no error.
func answerWords(a api.Answer) []string {
	switch a.Op {
	case api.OpMake:
		fallthrough
	case api.OpClone:
		fallthrough
	case api.OpOpen:
		fallthrough
	case api.OpLen:
		fallthrough
	case api.OpLive:
		fallthrough
	case api.OpProbes:
		fallthrough
	case api.OpSlots:
		return []string{numberText(a.N)}
	case api.OpGet:
		if a.Yes {
			return []string{"yes", bytesText(a.Elem)}
		}
		return []string{"no"}
	case api.OpPut:
		if a.Yes {
			return []string{"new"}
		}
		return []string{"old"}
	case api.OpDelete:
		if a.Yes {
			return []string{"yes"}
		}
		return []string{"no"}
	case api.OpNext:
		if a.Yes {
			return []string{"pair", bytesText(a.Key), bytesText(a.Elem)}
		}
		return []string{"done"}
	case api.OpAudit:
		if a.N != 0 {
			return []string{"rule", numberText(a.N), numberText(a.Off)}
		}
		return []string{"fine"}
	}
	return nil
}

// Read: the answer of a line. What a line may be about is guessed by its words; whether it is that answer's line, Show alone says.
func Read(line string) (api.Answer, api.Errno) {
	words := strings.Split(line, " ")
	r, known := rowNamed(words[0])
	if !known || r.kind != commandLine {
		return api.Answer{}, api.ErrText
	}
	a := guess(r.op, words[1:])
	if Show(a) != line {
		return api.Answer{}, api.ErrText
	}
	return a, api.OK
}

// guess: the one answer with that Op whose line may have these words behind its name. What can't be read, or is missing, is zero.
func guess(op int, words []string) api.Answer {
	a := api.Answer{Op: op}
	words = append(words, "", "", "") // no answer has more of them than three
	first := words[0]
	if first == "error" {
		n, _ := number(words[1])
		a.Err = api.Errno(n)
		return a
	}
	switch op {
	case api.OpGet:
		a.Yes = first == "yes"
		a.Elem, _ = bytesOf(words[1])
	case api.OpPut:
		a.Yes = first == "new"
	case api.OpDelete:
		a.Yes = first == "yes"
	case api.OpNext:
		a.Yes = first == "pair"
		a.Key, _ = bytesOf(words[1])
		a.Elem, _ = bytesOf(words[2])
	case api.OpAudit:
		a.N, _ = number(words[1])
		a.Off, _ = number(words[2])
	case api.OpClear, api.OpRelease:
	default:
		a.N, _ = number(first)
	}
	return a
}
