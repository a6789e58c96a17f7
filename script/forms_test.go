package script_test

import (
	"math"
	"strings"
	"testing"

	"larder/api"
	"larder/script"
)

// place: where a field may stand: a line with % in its place, and what a script with that line holds there.
type place struct {
	line string
	of   func(s api.Script) any
}

// first: the script's one command.
func first(s api.Script) api.Cmd { return s.Cmds[0] }

func handle(s api.Script) any { return first(s).H }
func key(s api.Script) any    { return first(s).Key }
func elem(s api.Script) any   { return first(s).Elem }
func wordU(s api.Script) any  { return first(s).U }
func wordV(s api.Script) any  { return first(s).V }

var numberPlaces = []place{
	{"limit %", func(s api.Script) any { return s.Limit }},
	{"make 0 %", func(s api.Script) any { return first(s).N }},
	{"make 0 % 1 2", func(s api.Script) any { return first(s).N }},
	{"make 0 0 %", func(s api.Script) any { return first(s).Fields[0] }},
	{"make 0 0 % 1", func(s api.Script) any { return first(s).Fields[0] }},
	{"make 0 0 1 1 1 1 %", func(s api.Script) any { return first(s).Fields[4] }},
	{"make 0 0 1 1 1 1 1 1 1 %", func(s api.Script) any { return first(s).Fields[7] }},
	{"get % 61", handle}, {"put % 61 62", handle}, {"delete % 61", handle}, {"len %", handle}, {"clear % 0", handle}, {"clone %", handle},
	{"open % 0 0", handle}, {"next %", handle}, {"probes % 61", handle}, {"slots %", handle},
	{"release %", func(s api.Script) any { return first(s).Hs[0] }},
	{"release 1 2 % 3", func(s api.Script) any { return first(s).Hs[2] }},
}

var wordPlaces = []place{
	{"hash 61 %", func(s api.Script) any { return s.Over[0].Hash }},
	{"make % 0", wordU}, {"make % 0 1 1 1 1 16", wordU}, {"clear 1 %", wordU}, {"open 1 % 0", wordU}, {"open 1 0 %", wordV},
}

var bytesPlaces = []place{
	{"hash % 5", func(s api.Script) any { return s.Over[0].Key }},
	{"get 1 %", key}, {"put 1 % 62", key}, {"put 1 61 %", elem}, {"delete 1 %", key}, {"probes 1 %", key},
}

// atPlaces: the field at each of the places is read as that value, or refused by that error.
func atPlaces(t *testing.T, places []place, field string, want any, wantErr api.Errno) {
	t.Helper()
	for _, p := range places {
		text, line := strings.Replace(p.line, "%", field, 1), 1
		if !strings.HasPrefix(text, "limit") {
			text, line = "limit 5\n"+text, 2
		}
		if wantErr != api.OK {
			refuses(t, text, line, wantErr)
			continue
		}
		s, at, e := script.Parse(text)
		if at != 0 || e != api.OK {
			t.Errorf("P16.1: Parse(%q) = line %d, error %d, want %v there", short(text), at, e, want)
			continue
		}
		if got := p.of(s); got != want {
			t.Errorf("P16.1: Parse(%q): %v is read, want %v", short(text), got, want)
		}
	}
}

var zeros = strings.Repeat("0", 1000)

func TestNumbers(t *testing.T) {
	for field, want := range map[string]int{
		"0": 0, "-0": 0, "00": 0, "-00": 0, "-" + zeros: 0, "7": 7, "007": 7, "-7": -7, "-007": -7, zeros + "12": 12, "-" + zeros + "12": -12,
		"1234567890": 1234567890, "9": 9, "10": 10, "08": 8,
		"9223372036854775806": math.MaxInt - 1, "9223372036854775807": math.MaxInt, zeros + "9223372036854775807": math.MaxInt,
		"-9223372036854775807": math.MinInt + 1, "-9223372036854775808": math.MinInt, "-" + zeros + "9223372036854775808": math.MinInt,
	} {
		atPlaces(t, numberPlaces, field, want, api.OK)
	}
}

func TestNumbersOutOfRange(t *testing.T) {
	for _, field := range []string{
		"9223372036854775808", "-9223372036854775809", zeros + "9223372036854775808", "-" + zeros + "9223372036854775809",
		"9999999999999999999", "18446744073709551615", "18446744073709551616", "18446744073709551621", "-18446744073709551611", "-18446744073709551616",
		"1" + zeros, "-1" + zeros, "36893488147419103232", "340282366920938463463374607431768211456",
	} {
		atPlaces(t, numberPlaces, field, nil, api.ErrRange)
	}
}

func TestNoNumbers(t *testing.T) {
	for _, field := range []string{
		"+5", "-", "--5", "-+5", "+-5", "5-", "5-5", "1_0", "_1", "0x5", "0b1", "0o7", "5.0", "5.", ".5", "1e3", "a", "5a", "a5", "'5", "5#", "-#", "\"5\"", "5,", "5;",
		"5\r", "\r5", "\r", "5\x00", "\x00", "5\xff", "\xff5", "5\v", "5\f", "5\u00a0", "５", "٣", "−5", "5é", "²",
		"9223372036854775808x", "x9223372036854775808", "-1" + zeros + "x", "99999999999999999999\r", "+99999999999999999999", "0x99999999999999999999",
	} {
		atPlaces(t, numberPlaces, field, nil, api.ErrText)
	}
}

func TestWords(t *testing.T) {
	for field, want := range map[string]uint64{
		"0": 0, "00": 0, "0x0": 0, "0x00": 0, zeros: 0, "0x" + zeros: 0, "7": 7, "007": 7, "0x7": 7, "0x007": 7, "10": 10, "0x10": 16, "010": 10,
		"0xff": 255, "0xFF": 255, "0xfF": 255, "0x0fF": 255, "0xabcdef": 0xabcdef, "0xABCDEF": 0xabcdef, "0x0123456789abcdef": 0x0123456789abcdef, "123456789": 123456789,
		"18446744073709551614": math.MaxUint64 - 1, "18446744073709551615": math.MaxUint64, zeros + "18446744073709551615": math.MaxUint64,
		"9223372036854775808": 1 << 63, "0x8000000000000000": 1 << 63,
		"0xffffffffffffffff": math.MaxUint64, "0xFFFFFFFFFFFFFFFF": math.MaxUint64, "0x" + zeros + "ffffffffffffffff": math.MaxUint64,
	} {
		atPlaces(t, wordPlaces, field, want, api.OK)
	}
}

func TestWordsOutOfRange(t *testing.T) {
	for _, field := range []string{
		"18446744073709551616", zeros + "18446744073709551616", "18446744073709551617", "99999999999999999999", "1" + zeros, "36893488147419103232",
		"0x10000000000000000", "0x" + zeros + "10000000000000000", "0x1ffffffffffffffff", "0xfffffffffffffffff", "0x1" + zeros, "0xFFFFFFFFFFFFFFFFF",
	} {
		atPlaces(t, wordPlaces, field, nil, api.ErrRange)
	}
}

func TestNoWords(t *testing.T) {
	for _, field := range []string{
		"-1", "-0", "+1", "-", "0x", "0X1", "x1", "x", "ff", "0xg", "0x1g", "0x-1", "0x+1", "-0x1", "0x1_0", "1_0", "00x1", "0x0x1", "1x0", "0b1", "0o7", "'1", "1a", "a1", "1.0", "1e3", "0x1.0",
		"1\r", "0x1\r", "\r", "1\x00", "0x\xff", "1\u00a0", "１", "0x１", "٣",
		"18446744073709551616x", "0x10000000000000000g", "-18446744073709551616", "ffffffffffffffffffff",
	} {
		atPlaces(t, wordPlaces, field, nil, api.ErrText)
	}
}

// allBytes: each byte once, as it is, and as digits.
func allBytes() (string, string) {
	var bytes, digits strings.Builder
	for i := range 256 {
		bytes.WriteByte(byte(i))
		digits.WriteString(string("0123456789abcdef"[i/16]) + string("0123456789abcdef"[i%16]))
	}
	return bytes.String(), digits.String()
}

func TestBytes(t *testing.T) {
	bytes, digits := allBytes()
	long := strings.Repeat("k", 5000)
	for field, want := range map[string]string{
		"-": "", "00": "\x00", "ff": "\xff", "FF": "\xff", "fF": "\xff", "Ff": "\xff", "61": "a", "616263": "abc", "0123456789abcdefABCDEF": "\x01\x23\x45\x67\x89\xab\xcd\xef\xab\xcd\xef",
		"20": " ", "09": "\t", "0a": "\n", "0d": "\r", "23": "#", digits: bytes, strings.ToUpper(digits): bytes, strings.Repeat("6b", 5000): long,
		"'a": "a", "''": "'", "'''": "''", "'-": "-", "'#": "#", "'##": "##", "'ab#c": "ab#c", "'61": "61", "'6": "6", "'\r": "\r", "'a\r": "a\r", "'\x00": "\x00", "'\xff": "\xff", "'\xc3": "\xc3",
		"'é": "é", "'\u00a0": "\u00a0", "'\u2028": "\u2028", "'\v\f": "\v\f", "'0x1": "0x1", "'limit": "limit", "'" + long: long,
	} {
		atPlaces(t, bytesPlaces, field, want, api.OK)
	}
}

// TestBytesThemselves: behind an apostrophe every byte stands for itself, but those that end a word.
func TestBytesThemselves(t *testing.T) {
	for i := range 256 {
		if b := string([]byte{byte(i)}); !strings.Contains(" \t\n", b) {
			atPlaces(t, bytesPlaces, "'"+b, b, api.OK)
			atPlaces(t, bytesPlaces, "'a"+b+"z", "a"+b+"z", api.OK)
		}
	}
}

// TestDigits: every two bytes that are no blanks: bytes if both are digits, else a fault.
func TestDigits(t *testing.T) {
	for i := range 256 {
		for j := range 256 {
			field := string([]byte{byte(i), byte(j)})
			if strings.ContainsAny(field, " \t\n") || field[0] == '\'' || field[0] == '#' {
				continue
			}
			want, e := plainBytes(field)
			atPlaces(t, bytesPlaces[1:2], field, want, e)
		}
	}
}

func TestNoBytes(t *testing.T) {
	for _, field := range []string{
		"'", "6", "616", "--", "-61", "61-", "-'", "6g", "g6", "0x61", "0x", "\"", "a'", "6'", "\"ab\"", "é", "\xff\xff", "\xff", "６１", "61\r", "6\r", "\r", "\r\r", "6\x00", "+1", "1.", "６", "__",
		"99999999999999999999x", strings.Repeat("6", 9999),
	} {
		atPlaces(t, bytesPlaces, field, nil, api.ErrText)
	}
}
