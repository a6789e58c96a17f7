package script_test

import (
	"encoding/hex"
	"fmt"
	"math/big"
	"regexp"
	"strings"

	"larder/api"
)

// The chapter's words once more, in another way: patterns, big numbers, formats.

var (
	numberForm = regexp.MustCompile(`\A-?[0-9]+\z`)
	wordForm   = regexp.MustCompile(`\A([0-9]+|0x[0-9a-fA-F]+)\z`)
	bytesForm  = regexp.MustCompile(`(?s)\A(-|([0-9a-fA-F][0-9a-fA-F])+|'.+)\z`)
)

// plainForms: of the lines, by their names: n a number, w a word, b bytes, * any number of numbers.
var plainForms = map[string]string{
	"limit": "n", "hash": "bw", "make": "wn*", "get": "nb", "put": "nbb", "delete": "nb", "len": "n", "clear": "nw", "clone": "n",
	"open": "nww", "next": "n", "release": "*", "live": "", "probes": "nb", "slots": "n", "audit": "",
}

func plainNumber(field string) (int, api.Errno) {
	if !numberForm.MatchString(field) {
		return 0, api.ErrText
	}
	n, _ := new(big.Int).SetString(field, 10)
	if !n.IsInt64() {
		return 0, api.ErrRange
	}
	return int(n.Int64()), api.OK
}

func plainWord(field string) (uint64, api.Errno) {
	if !wordForm.MatchString(field) {
		return 0, api.ErrText
	}
	n, base := new(big.Int), 10
	if strings.HasPrefix(field, "0x") {
		field, base = field[2:], 16
	}
	n.SetString(field, base)
	if !n.IsUint64() {
		return 0, api.ErrRange
	}
	return n.Uint64(), api.OK
}

func plainBytes(field string) (string, api.Errno) {
	if !bytesForm.MatchString(field) {
		return "", api.ErrText
	}
	if field[0] == '\'' {
		return field[1:], api.OK
	}
	b, _ := hex.DecodeString(strings.TrimPrefix(field, "-"))
	return string(b), api.OK
}

// plainFields: the fields of a line, by their forms: its numbers, its words, its bytes.
func plainFields(form string, fields []string) (ns []int, ws []uint64, bs []string, e api.Errno) {
	if least := len(strings.TrimSuffix(form, "*")); len(fields) < least || len(fields) > least && !strings.HasSuffix(form, "*") {
		return nil, nil, nil, api.ErrText
	}
	for i, field := range fields {
		var n int
		var w uint64
		var b string
		kind := byte('n')
		if i < len(form) {
			kind = form[i]
		}
		switch kind {
		case 'w':
			w, e = plainWord(field)
			ws = append(ws, w)
		case 'b':
			b, e = plainBytes(field)
			bs = append(bs, b)
		default:
			n, e = plainNumber(field)
			ns = append(ns, n)
		}
		if e != api.OK {
			return nil, nil, nil, e
		}
	}
	return ns, ws, bs, api.OK
}

// plainCmd: a command of that name with these fields.
func plainCmd(name string, ns []int, ws []uint64, bs []string) api.Cmd {
	var c api.Cmd
	for op, n := range names {
		if n == name {
			c.Op = op
		}
	}
	ws = append(ws, 0, 0)
	bs = append(bs, "", "")
	c.U, c.V, c.Key, c.Elem = ws[0], ws[1], bs[0], bs[1]
	switch name {
	case "make":
		c.N, c.Fields = ns[0], ns[1:]
	case "release":
		c.Hs = ns
	case "live", "audit":
	default:
		c.H = ns[0]
	}
	return c
}

func plainWords(line string) []string {
	words := strings.FieldsFunc(line, func(c rune) bool { return c == 32 || c == 9 })
	for i, word := range words {
		if strings.HasPrefix(word, "#") {
			return words[:i]
		}
	}
	return words
}

func plainParse(text string) (api.Script, int, api.Errno) {
	if len(text) > 1048576 {
		return api.Script{}, 0, api.ErrText
	}
	var s api.Script
	var limits, commands int
	lines := strings.Split(text, "\n")
	if lines[len(lines)-1] == "" {
		lines = lines[:len(lines)-1]
	}
	for i, line := range lines {
		words := plainWords(line)
		if len(words) == 0 {
			continue
		}
		form, known := plainForms[words[0]]
		if !known || (words[0] == "limit") != (limits == 0) || words[0] == "hash" && commands > 0 {
			return api.Script{}, i + 1, api.ErrText
		}
		ns, ws, bs, e := plainFields(form, words[1:])
		if e != api.OK {
			return api.Script{}, i + 1, e
		}
		switch words[0] {
		case "limit":
			s.Limit = ns[0]
			limits++
		case "hash":
			s.Over = append(s.Over, api.Over{Key: bs[0], Hash: ws[0]})
		default:
			s.Cmds = append(s.Cmds, plainCmd(words[0], ns, ws, bs))
			commands++
		}
	}
	if limits == 0 {
		return api.Script{}, len(lines) + 1, api.ErrText
	}
	return s, 0, api.OK
}

func plainHex(bytes string) string {
	if bytes == "" {
		return "-"
	}
	return fmt.Sprintf("%x", bytes)
}

func plainList(list []int) string {
	text := ""
	for _, n := range list {
		text += fmt.Sprintf(" %d", n)
	}
	return text
}

func plainLine(c api.Cmd) string {
	switch c.Op {
	case api.OpMake:
		return fmt.Sprintf("make %#x %d%s\n", c.U, c.N, plainList(c.Fields))
	case api.OpGet, api.OpDelete, api.OpProbes:
		return fmt.Sprintf("%s %d %s\n", names[c.Op], c.H, plainHex(c.Key))
	case api.OpPut:
		return fmt.Sprintf("put %d %s %s\n", c.H, plainHex(c.Key), plainHex(c.Elem))
	case api.OpClear:
		return fmt.Sprintf("clear %d %#x\n", c.H, c.U)
	case api.OpOpen:
		return fmt.Sprintf("open %d %#x %#x\n", c.H, c.U, c.V)
	case api.OpLen, api.OpClone, api.OpNext, api.OpSlots:
		return fmt.Sprintf("%s %d\n", names[c.Op], c.H)
	case api.OpRelease:
		return fmt.Sprintf("release%s\n", plainList(c.Hs))
	case api.OpLive, api.OpAudit:
		return names[c.Op] + "\n"
	}
	return ""
}

func plainPrint(s api.Script) string {
	var text strings.Builder
	fmt.Fprintf(&text, "limit %d\n", s.Limit)
	for _, o := range s.Over {
		fmt.Fprintf(&text, "hash %s %#x\n", plainHex(o.Key), o.Hash)
	}
	for _, c := range s.Cmds {
		text.WriteString(plainLine(c))
	}
	return text.String()
}

func plainShow(a api.Answer) string {
	if a.Op < firstOp || a.Op > lastOp {
		return ""
	}
	name := names[a.Op]
	switch {
	case a.Err != 0:
		return fmt.Sprintf("%s error %d", name, int(a.Err))
	case strings.Contains(" make clone open len live probes slots ", " "+name+" "):
		return fmt.Sprintf("%s %d", name, a.N)
	case name == "clear" || name == "release":
		return name
	case name == "audit" && a.N == 0:
		return "audit fine"
	case name == "audit":
		return fmt.Sprintf("audit rule %d %d", a.N, a.Off)
	case name == "get" && a.Yes:
		return "get yes " + plainHex(a.Elem)
	case name == "next" && a.Yes:
		return "next pair " + plainHex(a.Key) + " " + plainHex(a.Elem)
	}
	words := map[string][2]string{"get": {"no", ""}, "next": {"done", ""}, "put": {"old", "new"}, "delete": {"no", "yes"}}[name]
	if a.Yes {
		return name + " " + words[1]
	}
	return name + " " + words[0]
}

// told: what an answer's line tells of it: zeros wherever it says nothing.
func told(a api.Answer) api.Answer {
	t := api.Answer{Op: a.Op, Err: a.Err}
	if a.Err != 0 {
		return t
	}
	switch a.Op {
	case api.OpGet, api.OpNext, api.OpPut, api.OpDelete:
		t.Yes = a.Yes
	case api.OpClear, api.OpRelease:
	default:
		t.N = a.N
	}
	switch {
	case a.Op == api.OpGet && a.Yes:
		t.Elem = a.Elem
	case a.Op == api.OpNext && a.Yes:
		t.Key, t.Elem = a.Key, a.Elem
	case a.Op == api.OpAudit && a.N != 0:
		t.Off = a.Off
	}
	return t
}

const (
	tightNumber = `(0|-?[1-9][0-9]*)`
	tightBytes  = `(-|(?:[0-9a-f][0-9a-f])+)`
)

// answerForms: the lines of answers; the groups in brackets are numbers and bytes.
var answerForms = []*regexp.Regexp{
	regexp.MustCompile(`\A(make|clone|open|len|live|probes|slots) ` + tightNumber + `\z`),
	regexp.MustCompile(`\A(make|get|put|delete|len|clear|clone|open|next|release|live|probes|slots|audit) error ` + tightNumber + `\z`),
	regexp.MustCompile(`\A(get) yes ` + tightBytes + `\z`),
	regexp.MustCompile(`\A(?:get no|put new|put old|delete yes|delete no|next done|clear|release|audit fine)\z`),
	regexp.MustCompile(`\A(next) pair ` + tightBytes + ` ` + tightBytes + `\z`),
	regexp.MustCompile(`\A(audit) rule ` + tightNumber + ` ` + tightNumber + `\z`),
}

// isAnswer: is it the line of some answer?
func isAnswer(line string) bool {
	for i, form := range answerForms {
		parts := form.FindStringSubmatch(line)
		if parts == nil {
			continue
		}
		switch i {
		case 0:
			return fitsInt(parts[2])
		case 1:
			return fitsInt(parts[2]) && parts[2] != "0"
		case 5:
			return fitsInt(parts[2]) && parts[2] != "0" && fitsInt(parts[3])
		}
		return true
	}
	return false
}

func fitsInt(number string) bool {
	n, ok := new(big.Int).SetString(number, 10)
	return ok && n.IsInt64()
}
