package lang

import "strings"

// words: what looks like a name and is none.
var words = [...]string{"map", "delete", "clear", "print", "if", "else", "while", "for", "in", "break", "continue", "has", "len"}

// marks: those of two bytes stand ahead of those of one, so that the first that fits is the longest.
var marks = [...]string{"||", "&&", "==", "!=", "<=", ">=", ";", ",", "=", "[", "]", "(", ")", "{", "}", "<", ">", "+", "-", "*", "/", "%", "!"}

// The rules of expressions, from the uppermost of the grammar down.
const (
	noRule = iota
	orRule
	andRule
	cmpRule
	sumRule
	termRule
	unaryRule
)

// operator: of a binary expression, and the rule in which it stands.
type operator struct {
	text string
	rule int
}

var operators = [...]operator{
	{"||", orRule}, {"&&", andRule},
	{"==", cmpRule}, {"!=", cmpRule}, {"<", cmpRule}, {"<=", cmpRule}, {">", cmpRule}, {">=", cmpRule},
	{"+", sumRule}, {"-", sumRule},
	{"*", termRule}, {"/", termRule}, {"%", termRule},
}

// ruleOf: the rule of a binary operator; noRule, if it is none.
func ruleOf(text string) int {
	for _, o := range operators {
		if o.text == text {
			return o.rule
		}
	}
	return noRule
}

func isUnary(text string) bool { return text == "-" || text == "!" }

func isWord(text string) bool {
	for _, w := range words {
		if w == text {
			return true
		}
	}
	return false
}

// isName: is the whole text one name?
func isName(text string) bool {
	if text == "" {
		return false
	}
	kind, size := firstToken(text)
	return kind == nameToken && size == len(text)
}

// markSize: how long the mark is with which the text begins; 0, if there is none.
func markSize(text string) int {
	for _, m := range marks {
		if strings.HasPrefix(text, m) {
			return len(m)
		}
	}
	return 0
}

func isBlank(c byte) bool { return c == '\t' || c == '\n' || c == '\r' || c == ' ' }

func isDigit(c byte) bool { return c >= '0' && c <= '9' }

func isLetter(c byte) bool { return c >= 'a' && c <= 'z' || c >= 'A' && c <= 'Z' || c == '_' }

func isInName(c byte) bool { return isLetter(c) || isDigit(c) }
