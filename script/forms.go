package script

import (
	"strconv"
	"strings"

	"larder/api"
)

const noDigit = 16 // what a digit is never worth

// digit: what it is worth.
func digit(c rune) int {
	switch {
	case c >= '0' && c <= '9':
		return int(c - '0')
	case c >= 'a' && c <= 'f':
		return int(c-'a') + 10
	case c >= 'A' && c <= 'F':
		return int(c-'A') + 10
	}
	return noDigit
}

// allDigits: is it one or more digits to that base, and nothing else?
func allDigits(text string, base int) bool {
	for _, c := range text {
		if digit(c) >= base {
			return false
		}
	}
	return text != ""
}

// number: what a field says that is to be a number.
func number(field string) (int, api.Errno) {
	if !allDigits(strings.TrimPrefix(field, "-"), 10) {
		return 0, api.ErrText
	}
	n, err := strconv.ParseInt(field, 10, 64)
	if err != nil { // the form is right
		return 0, api.ErrRange
	}
	return int(n), api.OK
}

// numbers: what fields say that are to be numbers; the first that is none, or out of range, tells the error.
func numbers(fields []string) ([]int, api.Errno) {
	var list []int
	for _, field := range fields {
		n, e := number(field)
		if e != api.OK {
			return nil, e
		}
		list = append(list, n)
	}
	return list, api.OK
}

// word64: what a field says that is to be a word of 64 bits.
func word64(field string) (uint64, api.Errno) {
	digits, base := field, 10
	if strings.HasPrefix(field, "0x") {
		digits, base = field[2:], 16
	}
	if !allDigits(digits, base) {
		return 0, api.ErrText
	}
	u, err := strconv.ParseUint(digits, base, 64)
	if err != nil { // the form is right
		return 0, api.ErrRange
	}
	return u, api.OK
}

// bytesOf: what a field says that is to be bytes.
func bytesOf(field string) (string, api.Errno) {
	switch {
	case field == "-":
		return "", api.OK
	case len(field) > 1 && field[0] == '\'':
		return strings.Clone(field[1:]), api.OK // else a key would keep the whole text
	case len(field)%2 == 0 && allDigits(field, 16):
		return pairsOfDigits(field), api.OK
	}
	return "", api.ErrText
}

// pairsOfDigits: the bytes of an even number of digits.
func pairsOfDigits(digits string) string {
	bytes := make([]byte, 0, len(digits)/2)
	high := 0
	for i, c := range digits {
		if i%2 == 0 {
			high = digit(c)
		} else {
			bytes = append(bytes, byte(16*high+digit(c)))
		}
	}
	return string(bytes)
}

func numberText(n int) string { return strconv.Itoa(n) }

func word64Text(u uint64) string { return "0x" + strconv.FormatUint(u, 16) }

func bytesText(bytes string) string {
	if bytes == "" {
		return "-"
	}
	const digits = "0123456789abcdef"
	text := make([]byte, 0, 2*len(bytes))
	for i := range len(bytes) {
		text = append(text, digits[bytes[i]>>4], digits[bytes[i]&15])
	}
	return string(text)
}
