package script_test

import (
	"math"
	"math/rand"
	"reflect"
	"strconv"
	"strings"
	"testing"

	"larder/api"
	"larder/script"
)

// names: of the commands, by their Op.
var names = []string{
	api.OpMake: "make", api.OpGet: "get", api.OpPut: "put", api.OpDelete: "delete", api.OpLen: "len", api.OpClear: "clear", api.OpClone: "clone",
	api.OpOpen: "open", api.OpNext: "next", api.OpRelease: "release", api.OpLive: "live", api.OpProbes: "probes", api.OpSlots: "slots", api.OpAudit: "audit",
}

const firstOp, lastOp = api.OpMake, api.OpAudit

// noOps: Ops that are none of the table's.
var noOps = []int{0, -1, -2, -14, 15, 16, 100, 1 << 32, 1<<32 + 1, math.MinInt, math.MaxInt}

// normal: the script with nil for each empty list. It is a script of its own.
func normal(s api.Script) api.Script {
	s.Over = append([]api.Over(nil), s.Over...)
	s.Cmds = append([]api.Cmd(nil), s.Cmds...)
	for i := range s.Cmds {
		s.Cmds[i].Fields = append([]int(nil), s.Cmds[i].Fields...)
		s.Cmds[i].Hs = append([]int(nil), s.Cmds[i].Hs...)
	}
	return s
}

func same(s, u api.Script) bool { return reflect.DeepEqual(normal(s), normal(u)) }

// short: a text for a message.
func short(text string) string {
	if len(text) > 200 {
		return text[:100] + " .. " + text[len(text)-100:]
	}
	return text
}

// reads: the text is read as that script.
func reads(t *testing.T, text string, want api.Script) {
	t.Helper()
	if s, line, e := script.Parse(text); line != 0 || e != api.OK || !same(s, want) {
		t.Errorf("P16.1: Parse(%q) = %+v, line %d, error %d, want %+v", short(text), s, line, e, want)
	}
}

// refuses: the text is refused at that line.
func refuses(t *testing.T, text string, line int, want api.Errno) {
	t.Helper()
	s, at, e := script.Parse(text)
	if at != line || e != want {
		t.Errorf("P16.1: Parse(%q) = line %d, error %d, want line %d, error %d", short(text), at, e, line, want)
	}
	if !reflect.DeepEqual(s, api.Script{}) {
		t.Errorf("P16.1: Parse(%q): a script that is not zero beside an error: %+v", short(text), s)
	}
}

// used: the command without what its Op does not use, by the chapter's table.
func used(c api.Cmd) api.Cmd {
	u := api.Cmd{Op: c.Op}
	switch c.Op {
	case api.OpMake:
		u.U, u.N, u.Fields = c.U, c.N, c.Fields
	case api.OpRelease:
		u.Hs = c.Hs
	case api.OpLive, api.OpAudit:
	default:
		u.H = c.H
	}
	switch c.Op {
	case api.OpPut:
		u.Key, u.Elem = c.Key, c.Elem
	case api.OpGet, api.OpDelete, api.OpProbes:
		u.Key = c.Key
	case api.OpClear:
		u.U = c.U
	case api.OpOpen:
		u.U, u.V = c.U, c.V
	}
	return u
}

// drawer: what is drawn for a test.
type drawer struct{ *rand.Rand }

func draws(seed int64) drawer { return drawer{rand.New(rand.NewSource(seed))} }

func (d drawer) oneOf(list ...string) string { return list[d.Intn(len(list))] }

func (d drawer) number() int {
	edges := []int{0, 1, -1, 9, 10, -10, math.MaxInt, math.MinInt, math.MaxInt - 1, math.MinInt + 1, math.MaxInt32, math.MinInt32, 1 << 32}
	switch d.Intn(3) {
	case 0:
		return edges[d.Intn(len(edges))]
	case 1:
		return d.Intn(200) - 20
	}
	return int(d.Uint64() >> d.Intn(64))
}

func (d drawer) numbers() []int {
	if d.Intn(3) == 0 {
		return nil
	}
	list := make([]int, d.Intn(7))
	for i := range list {
		list[i] = d.number()
	}
	return list
}

func (d drawer) word() uint64 {
	edges := []uint64{0, 1, 9, 10, 15, 16, math.MaxUint64, math.MaxUint64 - 1, 1 << 63, 1<<63 - 1, 0xabcdef}
	if d.Intn(3) == 0 {
		return edges[d.Intn(len(edges))]
	}
	return d.Uint64() >> d.Intn(64)
}

func (d drawer) bytes() string {
	switch d.Intn(5) {
	case 0:
		return ""
	case 1:
		return d.oneOf("-", "'", "#", "a", "61", " ", "\t", "\n", "\r", "\x00", "\xff", "é", "\xc3", "two words", "# no remark")
	}
	b := make([]byte, d.Intn(12))
	d.Read(b)
	return string(b)
}

// command: with that Op; all its fields are drawn.
func (d drawer) command(op int) api.Cmd {
	return api.Cmd{Op: op, H: d.number(), Fields: d.numbers(), Hs: d.numbers(), U: d.word(), V: d.word(), N: d.number(), Key: d.bytes(), Elem: d.bytes()}
}

func (d drawer) op() int { return firstOp + d.Intn(lastOp-firstOp+1) }

// script: its commands have Ops of the table, and zeros where these use nothing.
func (d drawer) script() api.Script {
	s := api.Script{Limit: d.number()}
	for range d.Intn(5) {
		s.Over = append(s.Over, api.Over{Key: d.bytes(), Hash: d.word()})
	}
	for range d.Intn(12) {
		s.Cmds = append(s.Cmds, used(d.command(d.op())))
	}
	return s
}

// anyScript: whatever Ops its commands have, and whatever lies in their fields.
func (d drawer) anyScript() api.Script {
	s := d.script()
	for range d.Intn(12) {
		op := d.op()
		if d.Intn(3) == 0 {
			op = noOps[d.Intn(len(noOps))]
		}
		s.Cmds = append(s.Cmds, d.command(op))
	}
	return s
}

// answer: with that Op; all else is drawn.
func (d drawer) answer(op int) api.Answer {
	a := api.Answer{Op: op, N: d.number(), Off: d.number(), Yes: d.Intn(2) == 0, Key: d.bytes(), Elem: d.bytes()}
	if d.Intn(3) == 0 {
		a.Err = api.Errno(d.number())
	}
	if d.Intn(4) == 0 {
		a.N = 0
	}
	return a
}

// spelt: the script's text in other spellings: blanks, tabs, zeros in front, upper-case digits, remarks, lines without words.
func (d drawer) spelt(s api.Script) string {
	var text strings.Builder
	gap := func() { text.WriteString(d.oneOf(" ", " ", "  ", "\t", " \t ")) }
	for _, line := range strings.Split(strings.TrimSuffix(plainPrint(s), "\n"), "\n") {
		for range d.Intn(2) * d.Intn(3) {
			text.WriteString(d.oneOf("\n", " \t\n", "# a remark\n", "\t#limit 5\n"))
		}
		if d.Intn(4) == 0 {
			gap()
		}
		words := strings.Split(line, " ")
		text.WriteString(words[0])
		form := plainForms[words[0]]
		for i, field := range words[1:] {
			gap()
			text.WriteString(d.respelt(form[min(i, len(form)-1)], field))
		}
		text.WriteString(d.oneOf("", "", "", " ", "\t", " #", "  # x 'y 5"))
		text.WriteString("\n")
	}
	if d.Intn(3) == 0 {
		return strings.TrimSuffix(text.String(), "\n")
	}
	return text.String()
}

// respelt: a field as Print writes it, in another spelling that is read as the same.
func (d drawer) respelt(kind byte, field string) string {
	some := strings.Repeat("0", d.Intn(3))
	switch kind {
	case 'b':
		b, _ := plainBytes(field)
		if b != "" && !strings.ContainsAny(b, " \t\n") && d.Intn(2) == 0 {
			return "'" + b
		}
		return d.oneOf(field, strings.ToUpper(field))
	case 'w':
		w, _ := plainWord(field)
		return d.oneOf("0x"+some+field[2:], "0x"+some+strings.ToUpper(field[2:]), some+strconv.FormatUint(w, 10))
	}
	if field[0] == '-' {
		return "-" + some + field[1:]
	}
	return some + field
}
