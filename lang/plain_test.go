package lang_test

import (
	"math/big"
	"regexp"
	"slices"
	"strings"

	"larder/api"
)

// The chapter's words, written out once more in another way: tokens by patterns, the grammar as a list of rules, and what may follow what by all the ways in which the rules could have come to the tokens so far.

var (
	blankForm = regexp.MustCompile(`^(?:[\t\n\r ]|//[^\n]*)+`)
	tokenForm = regexp.MustCompile(`^(?:[A-Za-z_][A-Za-z_0-9]*|[0-9]+|\|\||&&|==|!=|<=|>=|[;,=\[\](){}<>+*/%!-])`)
	nameForm  = regexp.MustCompile(`^[A-Za-z_][A-Za-z_0-9]*$`)
)

var wordList = []string{"map", "delete", "clear", "print", "if", "else", "while", "for", "in", "break", "continue", "has", "len"}

var markList = []string{"||", "&&", "==", "!=", "<=", ">=", ";", ",", "=", "[", "]", "(", ")", "{", "}", "<", ">", "+", "-", "*", "/", "%", "!"}

// A token's class: what the grammar calls it; a word's and a mark's is itself.
const (
	nameClass   = "NAME"
	numberClass = "NUMBER"
	oddClass    = "ODD"
	endClass    = "END"
)

type plainToken struct {
	class, text string
	line        int
}

func classOf(text string) string {
	switch {
	case slices.Contains(wordList, text), slices.Contains(markList, text):
		return text
	case nameForm.MatchString(text):
		return nameClass
	case text[0] >= '0' && text[0] <= '9':
		return numberClass
	}
	return oddClass
}

// plainTokens: the text's tokens, and behind them the end; all of them, however many.
func plainTokens(text string) []plainToken {
	var list []plainToken
	at := 0
	for {
		at += len(blankForm.FindString(text[at:]))
		line := 1 + strings.Count(text[:at], "\n")
		if at == len(text) {
			return append(list, plainToken{endClass, "", line})
		}
		word := tokenForm.FindString(text[at:])
		if word == "" {
			word = text[at : at+1]
		}
		list = append(list, plainToken{classOf(word), word, line})
		at += len(word)
	}
}

// How many tokens there are, without the end.
func countTokens(text string) int { return len(plainTokens(text)) - 1 }

func isPlainName(text string) bool {
	return nameForm.MatchString(text) && !slices.Contains(wordList, text)
}

// grammar: the chapter's, a line a way; what begins with a small letter or is a mark is a token.
const grammar = `
Program Maps Stmts
Maps
Maps Maps map NAME ;
Stmts
Stmts Stmts Stmt
Stmt NAME = Expr ;
Stmt NAME [ Expr ] = Expr ;
Stmt delete NAME [ Expr ] ;
Stmt clear NAME ;
Stmt print ;
Stmt print List ;
Stmt If
Stmt while Expr Block
Stmt for NAME , NAME in NAME Block
Stmt break ;
Stmt continue ;
List Expr
List List , Expr
If if Expr Block
If if Expr Block else Block
If if Expr Block else If
Block { Stmts }
Expr And
Expr Expr || And
And Cmp
And And && Cmp
Cmp Sum
Cmp Sum == Sum
Cmp Sum != Sum
Cmp Sum < Sum
Cmp Sum <= Sum
Cmp Sum > Sum
Cmp Sum >= Sum
Sum Term
Sum Sum + Term
Sum Sum - Term
Term Unary
Term Term * Unary
Term Term / Unary
Term Term % Unary
Unary - Unary
Unary ! Unary
Unary Prim
Prim NUMBER
Prim NAME
Prim NAME [ Expr ]
Prim has NAME [ Expr ]
Prim len NAME
Prim ( Expr )
`

// way: one of a rule's ways.
type way struct {
	rule  string
	parts []string
}

var ways, waysOf, mayBeEmpty = readGrammar()

// readGrammar: the ways; their numbers by their rule; the rules that have an empty way.
func readGrammar() ([]way, map[string][]int, map[string]bool) {
	var list []way
	by, empties := map[string][]int{}, map[string]bool{}
	for _, line := range strings.Split(strings.TrimSpace(grammar), "\n") {
		parts := strings.Fields(line)
		by[parts[0]] = append(by[parts[0]], len(list))
		list = append(list, way{parts[0], parts[1:]})
		empties[parts[0]] = empties[parts[0]] || len(parts) == 1
	}
	return list, by, empties
}

// spot: so many parts of a way are behind us; it was begun behind so many tokens.
type spot struct{ way, done, from int }

// looker: behind each of the tokens so far, all spots at which a text that goes on could be.
type looker struct{ rows [][]spot }

func newLooker() looker {
	l := looker{}
	return l.with(waysSpots("Program", 0))
}

func waysSpots(rule string, from int) []spot {
	var list []spot
	for _, w := range waysOf[rule] {
		list = append(list, spot{w, 0, from})
	}
	return list
}

// with: the looker behind one more token, that has led to these spots. The one that it is made of may be asked further on.
func (l looker) with(row []spot) looker {
	here := len(l.rows)
	rows := append(slices.Clip(l.rows), nil)
	known := map[spot]bool{}
	var all []spot
	add := func(list ...spot) {
		for _, s := range list {
			if !known[s] {
				known[s] = true
				all = append(all, s)
			}
		}
	}
	add(row...)
	for i := 0; i < len(all); i++ {
		s := all[i]
		w := ways[s.way]
		if s.done == len(w.parts) {
			behind := all
			if s.from < here {
				behind = rows[s.from]
			}
			for _, b := range behind {
				if p := ways[b.way].parts; b.done < len(p) && p[b.done] == w.rule {
					add(spot{b.way, b.done + 1, b.from})
				}
			}
			continue
		}
		part := w.parts[s.done]
		add(waysSpots(part, here)...)
		if mayBeEmpty[part] {
			add(spot{s.way, s.done + 1, s.from})
		}
	}
	rows[here] = all
	return looker{rows}
}

// take: the looker behind a token of that class; false, if no program goes on with it.
func (l looker) take(class string) (looker, bool) {
	var row []spot
	for _, s := range l.rows[len(l.rows)-1] {
		if p := ways[s.way].parts; s.done < len(p) && p[s.done] == class {
			row = append(row, spot{s.way, s.done + 1, s.from})
		}
	}
	if row == nil {
		return looker{}, false
	}
	return l.with(row), true
}

// whole: may the text end here?
func (l looker) whole() bool {
	for _, s := range l.rows[len(l.rows)-1] {
		if w := ways[s.way]; w.rule == "Program" && s.done == len(w.parts) && s.from == 0 {
			return true
		}
	}
	return false
}

var greatest = big.NewInt(1<<63 - 1)

// plainFault: what P23.1 says of a text that is no longer than MaxText: the line and the error.
func plainFault(text string) (int, api.Errno) {
	l := newLooker()
	for i, k := range plainTokens(text) {
		if k.class == endClass {
			if l.whole() {
				return 0, api.OK
			}
			return k.line, api.ErrSyntax
		}
		next, fine := l.take(k.class)
		if !fine || i >= api.MaxTokens {
			return k.line, api.ErrSyntax
		}
		if k.class == numberClass {
			if n, _ := new(big.Int).SetString(k.text, 10); n.Cmp(greatest) > 0 {
				return k.line, api.ErrRange
			}
		}
		l = next
	}
	panic("no end")
}
