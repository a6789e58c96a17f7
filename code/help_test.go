package code_test

import (
	"reflect"
	"strings"
	"testing"

	"larder/api"
	"larder/code"
	"larder/lang"
)

// parsed: the program of a text, which must be one.
func parsed(t *testing.T, text string) api.Prog {
	t.Helper()
	p, line, e := lang.Parse(text)
	if e != api.OK {
		t.Fatalf("P23.1: Parse(%q): line %d, error %d, want a program", short(text), line, e)
	}
	return p
}

// compiled: the code of a text's program, which must have one.
func compiled(t *testing.T, text string) api.Code {
	t.Helper()
	c, e := code.Compile(parsed(t, text))
	if e != api.OK {
		t.Fatalf("P24.1: Compile of %q: error %d, want code", short(text), e)
	}
	return c
}

// instructions: the code of lines, which are parted by semicolons; the first has the numbers of its variables and maps.
func instructions(lines string) api.Code {
	list := strings.Split(lines, ";")
	head := strings.Fields(list[0])
	c := api.Code{Vars: must(plainNumber(head[0])), Maps: must(plainNumber(head[1]))}
	for _, line := range list[1:] {
		in, right := plainInst(strings.Fields(line))
		if !right {
			panic("the test has no instruction " + line)
		}
		c.Insts = append(c.Insts, in)
	}
	return c
}

func must(n int64, right bool) int {
	if !right {
		panic("the test has a number that is none")
	}
	return int(n)
}

// becomes: the text's program is compiled to these lines, and that is code that can't go wrong.
func becomes(t *testing.T, text, lines string) {
	t.Helper()
	c := compiled(t, text)
	if want := instructions(lines); !same(c, want) {
		t.Errorf("P24.2: Compile of %q = %s, want %s", short(text), told(c), told(want))
	}
	if e := code.Verify(c); e != api.OK {
		t.Errorf("P24.4: Verify of the code of %q: error %d, want OK", short(text), e)
	}
}

// found: the code is found so, and the plain look finds it so, too.
func found(t *testing.T, c api.Code, want api.Errno) {
	t.Helper()
	if e := code.Verify(c); e != want {
		t.Errorf("P24.3: Verify of %s = %d, want %d", told(c), e, want)
	}
	if e := plainVerify(c); e != want {
		t.Errorf("the plain look at %s answers %d, want %d", told(c), e, want)
	}
}

// takes: the code of these lines is taken.
func takes(t *testing.T, lines string) {
	t.Helper()
	found(t, instructions(lines), api.OK)
}

// refuses: the code of these lines is refused.
func refuses(t *testing.T, lines string) {
	t.Helper()
	found(t, instructions(lines), api.ErrCode)
}

// reads: the text is read as that code.
func reads(t *testing.T, text string, want api.Code) {
	t.Helper()
	c, line, e := code.Assemble(text)
	if line != 0 || e != api.OK || !same(c, want) {
		t.Errorf("P24.7: Assemble(%q) = %s, line %d, error %d, want %s", short(text), told(c), line, e, told(want))
	}
}

// odd: the text is refused at that line.
func odd(t *testing.T, text string, line int) {
	t.Helper()
	c, at, e := code.Assemble(text)
	if at != line || e != api.ErrAsm {
		t.Errorf("P24.7: Assemble(%q): line %d, error %d, want line %d, error %d", short(text), at, e, line, api.ErrAsm)
	}
	if !reflect.DeepEqual(c, api.Code{}) {
		t.Errorf("P24.7: Assemble(%q): code that is not zero beside an error: %s", short(text), told(c))
	}
}

// same: are they the same code? An empty list counts as nil.
func same(c, d api.Code) bool {
	if c.Vars != d.Vars || c.Maps != d.Maps || len(c.Insts) != len(d.Insts) {
		return false
	}
	for i := range c.Insts {
		if c.Insts[i] != d.Insts[i] {
			return false
		}
	}
	return true
}

// told: code for a message.
func told(c api.Code) string { return short(strings.ReplaceAll(plainText(c), "\n", "; ")) }

// short: a text for a message.
func short(text string) string {
	if len(text) > 1000 {
		return text[:500] + " .. " + text[len(text)-500:]
	}
	return text
}

// verifies: code that is too long to be told is found so.
func verifies(t *testing.T, what string, c api.Code, want api.Errno) {
	t.Helper()
	if e := code.Verify(c); e != want {
		t.Errorf("P24.3: Verify of code with %s = %d, want %d", what, e, want)
	}
}
