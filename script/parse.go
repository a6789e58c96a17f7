package script

import (
	"strings"

	"larder/api"
)

// Parse: the script of a text; else the line (from 1 on) and the error.
func Parse(text string) (api.Script, int, api.Errno) {
	if len(text) > api.MaxText {
		return api.Script{}, 0, api.ErrText
	}
	var s api.Script
	last := noLine
	lines := linesOf(text)
	for i, line := range lines {
		words := wordsOf(line)
		if len(words) == 0 {
			continue
		}
		kind, c, e := readLine(last, words)
		if e != api.OK {
			return api.Script{}, i + 1, e
		}
		lay(&s, kind, c)
		last = kind
	}
	if last == noLine {
		return api.Script{}, len(lines) + 1, api.ErrText
	}
	return s, 0, api.OK
}

// linesOf: a text's lines, each without its line feed.
func linesOf(text string) []string {
	var lines []string
	begin := 0
	for i, c := range text {
		if c == '\n' {
			lines = append(lines, text[begin:i])
			begin = i + 1
		}
	}
	if begin < len(text) {
		lines = append(lines, text[begin:])
	}
	return lines
}

// wordsOf: a line's words, up to its remark.
func wordsOf(line string) []string {
	var words []string
	begin, within := 0, false
	for i, c := range line {
		isBlank := c == ' ' || c == '\t'
		switch {
		case within && isBlank:
			words = append(words, line[begin:i])
			within = false
		case !within && c == '#':
			return words
		case !within && !isBlank:
			begin, within = i, true
		}
	}
	if within {
		words = append(words, line[begin:])
	}
	return words
}

// readLine: what a line with words says, behind a line of the kind last: its kind, and a command, or what stands in its place.
func readLine(last int, words []string) (int, api.Cmd, api.Errno) {
	r, known := rowNamed(words[0])
	fields := words[1:]
	if !known || !mayFollow(last, r.kind) || !r.fits(len(fields)) {
		return noLine, api.Cmd{}, api.ErrText
	}
	c := api.Cmd{Op: r.op}
	for i, place := range r.form {
		if e := readField(&c, place, fields[i:]); e != api.OK {
			return noLine, api.Cmd{}, e
		}
	}
	return r.kind, c, api.OK
}

// mayFollow: may a line of that kind stand behind one of the kind last?
func mayFollow(last, kind int) bool {
	if kind == limitLine {
		return last == noLine
	}
	return last != noLine && last <= kind
}

// fits: has the form so many fields?
func (r row) fits(n int) bool {
	if strings.ContainsAny(r.form, manyNumbers) {
		return n >= len(r.form)-1
	}
	return n == len(r.form)
}

// readField: the first of the fields is laid into its place of the command; all of them, where any number may stand.
func readField(c *api.Cmd, place rune, fields []string) (e api.Errno) {
	switch place {
	case 'H':
		c.H, e = number(fields[0])
	case 'N':
		c.N, e = number(fields[0])
	case 'U':
		c.U, e = word64(fields[0])
	case 'V':
		c.V, e = word64(fields[0])
	case 'K':
		c.Key, e = bytesOf(fields[0])
	case 'E':
		c.Elem, e = bytesOf(fields[0])
	case 'F':
		c.Fields, e = numbers(fields)
	case 'S':
		c.Hs, e = numbers(fields)
	}
	return e
}

// lay: what a line of that kind says is laid into the script.
func lay(s *api.Script, kind int, c api.Cmd) {
	switch kind {
	case limitLine:
		s.Limit = c.N
	case hashLine:
		s.Over = append(s.Over, api.Over{Key: c.Key, Hash: c.U})
	case commandLine:
		s.Cmds = append(s.Cmds, c)
	}
}
