package code_test

import (
	"testing"

	"larder/api"
	"larder/code"
)

func TestExamplesOfCompile(t *testing.T) {
	becomes(t, "x = 1 + 2;", "1 0; tick; push 1; push 2; add; store 0")
	becomes(t, "map m; m[3] = m[4];", "0 1; tick; push 3; push 4; get 0; put 0")
	becomes(t, "while a { b = b - a; }", "2 0; tick; load 0; zero 9; tick; load 1; load 0; sub; store 1; jump 0")
	becomes(t, "map m; for k, v in m { if v { break; } }", "2 1; tick; open 0; tick; next 13; store 1; store 0; tick; load 1; zero 12; tick; close; jump 13; jump 2")
	becomes(t, "print a && b;", "2 0; tick; load 0; zero 7; load 1; zero 7; push 1; jump 8; push 0; print 1")
	becomes(t, "print a || b;", "2 0; tick; load 0; zero 4; jump 6; load 1; zero 8; push 1; jump 9; push 0; print 1")
}

func TestExamplesOfVerify(t *testing.T) {
	takes(t, "0 0")
	refuses(t, "1 0")
	refuses(t, "0 0; add")
	takes(t, "0 0; jump 1")
	refuses(t, "0 0; jump 0")
	takes(t, "0 0; tick; jump 0")
	refuses(t, "0 0; push 1")
	refuses(t, "0 1; open 0; tick; next 4; jump 1")
	takes(t, "0 1; open 0; tick; next 6; print 2; tick; jump 1")
	takes(t, "0 0; jump 2; add; tick")
	refuses(t, "0 0; jump 2; load 0; tick")
}

func TestExamplesOfText(t *testing.T) {
	if got := code.Text(compiled(t, "x = 1 + 2;")); got != "code 1 0\ntick\npush 1\npush 2\nadd\nstore 0\n" {
		t.Errorf("P24.6: the text of the first example: %q", got)
	}
	c := api.Code{Vars: -1, Insts: []api.Inst{{Op: 9, A: 1}, {Op: 77}}}
	if got := code.Text(c); got != "code -1 0\ninst 9 1 0\ninst 77 0 0\n" {
		t.Errorf("P24.6: Text of %+v = %q", c, got)
	}
	reads(t, "code 1 0 # one\n\n push  -007\n", api.Code{Vars: 1, Insts: []api.Inst{{Op: api.InPush, N: -7}}})
	odd(t, "", 1)
	odd(t, "code 1 0\nadd 1", 2)
	odd(t, "push 1", 1)
	odd(t, "code 0 0\npush 9223372036854775808", 2)
}
