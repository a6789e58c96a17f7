package script_test

import (
	"fmt"
	"math"
	"strings"
	"testing"

	"larder/api"
	"larder/script"
)

// asAnAnswer: the line is read just if it is an answer's line; and then as an answer whose line it is, with zeros wherever it says nothing.
func asAnAnswer(t *testing.T, line string) {
	t.Helper()
	a, e := script.Read(line)
	if !isAnswer(line) {
		if a != (api.Answer{}) || e != api.ErrText {
			t.Fatalf("P16.5: Read(%q) = %+v, error %d, want ErrText and the zero answer", short(line), a, e)
		}
		return
	}
	if e != api.OK || plainShow(a) != line || a != told(a) {
		t.Fatalf("P16.5: Read(%q) = %+v, error %d", short(line), a, e)
	}
}

func shows(t *testing.T, a api.Answer, line string) {
	t.Helper()
	if got := script.Show(a); got != line {
		t.Errorf("P16.4: Show(%+v) = %q, want %q", a, short(got), short(line))
	}
	want := told(a)
	if back, e := script.Read(line); back != want || e != api.OK {
		t.Errorf("P16.5: Read(%q) = %+v, error %d, want %+v", short(line), back, e, want)
	}
}

// full: an answer with something in every field.
var full = api.Answer{N: 3, Off: 16, Yes: true, Key: "k\x00", Elem: "\xffe"}

// empty: the answers that say no.
var empty = api.Answer{Off: 16, Key: "k\x00", Elem: "\xffe"}

func TestShowEveryOp(t *testing.T) {
	yes := []string{
		api.OpMake: "make 3", api.OpGet: "get yes ff65", api.OpPut: "put new", api.OpDelete: "delete yes", api.OpLen: "len 3", api.OpClear: "clear", api.OpClone: "clone 3", api.OpOpen: "open 3",
		api.OpNext: "next pair 6b00 ff65", api.OpRelease: "release", api.OpLive: "live 3", api.OpProbes: "probes 3", api.OpSlots: "slots 3", api.OpAudit: "audit rule 3 16",
	}
	no := []string{
		api.OpMake: "make 0", api.OpGet: "get no", api.OpPut: "put old", api.OpDelete: "delete no", api.OpLen: "len 0", api.OpClear: "clear", api.OpClone: "clone 0", api.OpOpen: "open 0",
		api.OpNext: "next done", api.OpRelease: "release", api.OpLive: "live 0", api.OpProbes: "probes 0", api.OpSlots: "slots 0", api.OpAudit: "audit fine",
	}
	for op := firstOp; op <= lastOp; op++ {
		a, b := full, empty
		a.Op, b.Op = op, op
		shows(t, a, yes[op])
		shows(t, told(a), yes[op])
		shows(t, b, no[op])
		shows(t, told(b), no[op])
	}
}

// TestShowErrors: with an error nothing else is looked at.
func TestShowErrors(t *testing.T) {
	for op := firstOp; op <= lastOp; op++ {
		for _, e := range []api.Errno{1, -1, 10, 22, 100, 160, 281, 1000000, math.MaxInt, math.MinInt} {
			a := full
			a.Op, a.Err = op, e
			line := fmt.Sprintf("%s error %d", names[op], int(e))
			shows(t, a, line)
			shows(t, api.Answer{Op: op, Err: e}, line)
		}
	}
}

func TestShowNumbers(t *testing.T) {
	for _, op := range []int{api.OpMake, api.OpClone, api.OpOpen, api.OpLen, api.OpLive, api.OpProbes, api.OpSlots} {
		for n, text := range map[int]string{0: "0", 1: "1", -1: "-1", 10: "10", 100: "100", -10: "-10", math.MaxInt: "9223372036854775807", math.MinInt: "-9223372036854775808"} {
			shows(t, api.Answer{Op: op, N: n}, names[op]+" "+text)
		}
	}
	for n, text := range map[int]string{1: "1", -1: "-1", 26: "26", math.MaxInt: "9223372036854775807", math.MinInt: "-9223372036854775808"} {
		shows(t, api.Answer{Op: api.OpAudit, N: n}, "audit rule "+text+" 0")
		shows(t, api.Answer{Op: api.OpAudit, N: n, Off: n}, "audit rule "+text+" "+text)
		shows(t, api.Answer{Op: api.OpAudit, N: 1, Off: n}, "audit rule 1 "+text)
	}
}

func TestShowBytes(t *testing.T) {
	bytes, digits := allBytes()
	for text, b := range map[string]string{"-": "", "2d": "-", "27": "'", "00": "\x00", "ff": "\xff", "c3a9": "é", "0a": "\n", "20": " ", digits: bytes, strings.Repeat("6b", 50000): strings.Repeat("k", 50000)} {
		shows(t, api.Answer{Op: api.OpGet, Yes: true, Elem: b}, "get yes "+text)
		shows(t, api.Answer{Op: api.OpNext, Yes: true, Key: b}, "next pair "+text+" -")
		shows(t, api.Answer{Op: api.OpNext, Yes: true, Elem: b}, "next pair - "+text)
		shows(t, api.Answer{Op: api.OpNext, Yes: true, Key: b, Elem: "e"}, "next pair "+text+" 65")
		shows(t, api.Answer{Op: api.OpNext, Yes: true, Key: "k", Elem: b}, "next pair 6b "+text)
	}
}

func TestShowNoOps(t *testing.T) {
	for _, op := range noOps {
		for _, e := range []api.Errno{api.OK, api.ErrText, -1} {
			a := full
			a.Op, a.Err = op, e
			if got := script.Show(a); got != "" {
				t.Errorf("P16.4: Show(%+v) = %q, want an empty line", a, got)
			}
		}
	}
}

// lines: of answers, with and without an error, of every Op.
func lines() []string {
	var list []string
	for op := firstOp; op <= lastOp; op++ {
		a, b := full, empty
		a.Op, b.Op = op, op
		list = append(list, plainShow(a), plainShow(b), plainShow(api.Answer{Op: op, Err: 61}), plainShow(api.Answer{Op: op, Err: -1}))
	}
	return append(list, "len -9223372036854775808", "len 9223372036854775807", "get yes -", "next pair - -", "next pair 61 -", "next pair - 61", "audit rule -1 -1", "audit rule 10 0", "get error 9223372036854775807")
}

// TestReadNeighbours: every line that is an answer's but for one byte: changed, taken out, put in.
func TestReadNeighbours(t *testing.T) {
	for _, line := range lines() {
		if !isAnswer(line) {
			t.Fatalf("%q is no answer's line of the test", line)
		}
		asAnAnswer(t, line)
		for at := range len(line) + 1 {
			for b := range 256 {
				piece := string([]byte{byte(b)})
				asAnAnswer(t, line[:at]+piece+line[at:])
				if at < len(line) {
					asAnAnswer(t, line[:at]+piece+line[at+1:])
				}
			}
			if at < len(line) {
				asAnAnswer(t, line[:at]+line[at+1:])
			}
			asAnAnswer(t, line[:at])
			asAnAnswer(t, line[at:])
		}
	}
}

// TestReadWords: every name with every words behind it.
func TestReadWords(t *testing.T) {
	pieces := []string{"yes", "no", "new", "old", "pair", "done", "fine", "rule", "error", "0", "1", "-1", "-0", "01", "00", "+1", "61", "6", "6A", "6a", "-", "'a", "0x1", "x", "", "9223372036854775808", "-9223372036854775809"}
	read := 0
	try := func(words ...string) {
		line := strings.Join(words, " ")
		asAnAnswer(t, line)
		if isAnswer(line) {
			read++
		}
	}
	for _, name := range append([]string{"limit", "hash", "", "Len", "nope"}, names...) {
		try(name)
		for _, a := range pieces {
			try(name, a)
			for _, b := range pieces {
				try(name, a, b)
				for _, c := range pieces {
					try(name, a, b, c)
					try(name, a, b, c, "1")
				}
			}
		}
	}
	if read < 100 {
		t.Errorf("the test has too few answers' lines: %d", read)
	}
}

func TestReadRefuses(t *testing.T) {
	for _, line := range []string{
		"", " ", "\n", "len", "len ", "len  5", " len 5", "len 5 ", "len 5\n", "len\t5", "len 05", "len -0", "len +5", "len -05", "len 5 5", "len x", "len 0x5", "len 5.0", "len 1_0", "len '5", "len ５",
		"len 9223372036854775808", "len -9223372036854775809", "len 18446744073709551621", "len " + zeros + "5", "len 1" + zeros,
		"get", "get yes", "get yes ", "get yes 6", "get yes 616", "get yes AB", "get yes aB", "get yes Ab", "get yes 'a", "get yes 61 ", "get yes  61", "get yes 61 62", "get yes --", "get no -", "get no 61", "get maybe", "get Yes 61", "get 5",
		"put", "put yes", "put no", "put new -", "put 1", "delete", "delete new", "delete yes 61", "clear ", "clear 1", "clear yes", "release ", "release no", "release 1", "release fine",
		"next", "next pair", "next pair 61", "next pair 61 ", "next pair 61 62 63", "next pair 6A 61", "next pair 61 6A", "next pair 'a 'b", "next done -", "next done done", "next no",
		"audit", "audit 5", "audit fine 0", "audit rule", "audit rule 5", "audit rule 0 5", "audit rule 0 0", "audit rule 05 5", "audit rule 5 05", "audit rule 5 -0", "audit rule 5 5 5", "audit rule 9223372036854775808 5", "audit rule 5 9223372036854775808", "audit 3 16", "audit fine 3 16",
		"get error", "get error 0", "get error -0", "get error 05", "get error x", "get error 5 5", "get error  5", "get error 5 ", "get error 9223372036854775808", "get Error 5", "clear error 0", "len error 0", "audit error 0", "error 5", "error",
		"limit 5", "limit", "hash 61 0x1", "hash", "hash error 5", "limit error 5", "nope", "Len 5", "LEN 5", "lens 5", "# len 5", "len 5 #", "len 5\r", "\xff", "len \xff",
	} {
		if a, e := script.Read(line); a != (api.Answer{}) || e != api.ErrText {
			t.Errorf("P16.5: Read(%q) = %+v, error %d, want ErrText and the zero answer", short(line), a, e)
		}
	}
}
