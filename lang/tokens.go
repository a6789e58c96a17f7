package lang

import (
	"strings"

	"larder/api"
)

// The kinds of tokens.
const (
	endToken = iota
	oddToken
	nameToken
	numberToken
	fixedToken // a word or a mark: its text says all
)

// token: what the reader looks at, and its line.
type token struct {
	kind int
	text string
	line int
}

const remark = "//"

// scan: the next token of the text.
func (r *reader) scan() token {
	r.skip()
	rest := r.text[r.at:]
	if rest == "" {
		return token{endToken, "", r.line}
	}
	r.count++
	if r.count > api.MaxTokens {
		return token{oddToken, "", r.line}
	}
	kind, size := firstToken(rest)
	r.at += size
	return token{kind, rest[:size], r.line}
}

// skip: blanks and remarks are passed by, and the lines counted.
func (r *reader) skip() {
	for r.at < len(r.text) {
		rest := r.text[r.at:]
		switch {
		case isBlank(rest[0]):
			if rest[0] == '\n' {
				r.line++
			}
			r.at++
		case strings.HasPrefix(rest, remark):
			r.at += remarkSize(rest)
		default:
			return
		}
	}
}

// remarkSize: how long the remark is with which the text begins; its line feed, if it has one, is left to be counted.
func remarkSize(text string) int {
	if n := strings.IndexByte(text, '\n'); n >= 0 {
		return n
	}
	return len(text)
}

// firstToken: the kind and the size of the token with which the text begins; it is not empty.
func firstToken(text string) (kind, size int) {
	switch {
	case isDigit(text[0]):
		return numberToken, leading(text, isDigit)
	case isLetter(text[0]):
		size = leading(text, isInName)
		if isWord(text[:size]) {
			return fixedToken, size
		}
		return nameToken, size
	}
	if size = markSize(text); size > 0 {
		return fixedToken, size
	}
	return oddToken, 1
}

// leading: with how many such bytes the text begins.
func leading(text string, fits func(byte) bool) int {
	n := 0
	for n < len(text) && fits(text[n]) {
		n++
	}
	return n
}
