package lang

import (
	"strconv"
	"strings"

	"larder/api"
)

// fault: what the reader gives up with, however deep it is: the line of the token that can't stand there.
type fault struct {
	line  int
	errno api.Errno
}

// reader: goes over a text's tokens, and looks at one of them at a time: each is asked for ahead of being taken, so the one at which it gives up is the first that can't stand there.
type reader struct {
	text  string
	at    int // behind the token that it looks at
	line  int
	count int // of tokens so far
	now   token
}

func newReader(text string) *reader {
	r := &reader{text: text, line: 1}
	r.now = r.scan()
	return r
}

func (r *reader) giveUp(e api.Errno) { panic(fault{r.now.line, e}) }

func (r *reader) is(fixed string) bool { return r.now.kind == fixedToken && r.now.text == fixed }

// take: the token's text; the reader goes on. A copy, else the tree would keep the whole text.
func (r *reader) take() string {
	text := strings.Clone(r.now.text)
	r.now = r.scan()
	return text
}

// met: is it that word or mark? If so, it is taken.
func (r *reader) met(fixed string) bool {
	found := r.is(fixed)
	if found {
		r.now = r.scan()
	}
	return found
}

func (r *reader) must(fixed string) {
	if !r.met(fixed) {
		r.giveUp(api.ErrSyntax)
	}
}

func (r *reader) name() string {
	if r.now.kind != nameToken {
		r.giveUp(api.ErrSyntax)
	}
	return r.take()
}

// number: of a token that is one.
func (r *reader) number() int64 {
	n, err := strconv.ParseInt(r.now.text, 10, 64)
	if err != nil { // the form is right
		r.giveUp(api.ErrRange)
	}
	r.now = r.scan()
	return n
}
