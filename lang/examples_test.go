package lang_test

import (
	"testing"

	"larder/api"
	"larder/lang"
)

const exampleText = `map m; // numbers to numbers
m[1]=2; x = (1+2)*3 - -4;
for k,v in m { if has m[k] && v<x {delete m[k];} else if !v { break; } else {} }
print;print len m, (m[1]);`

const exampleForm = `map m;
m[1] = 2;
x = (1 + 2) * 3 - -4;
for k, v in m {
	if has m[k] && v < x {
		delete m[k];
	} else if !v {
		break;
	}
}
print;
print len m, m[1];
`

func TestExampleProgram(t *testing.T) {
	k, v, x := name("k"), name("v"), name("x")
	inner := cond(binary(has("m", k), "&&", binary(v, "<", x)), block(del("m", k)), block(cond(unary("!", v), block(leave()), nil)))
	p := prog(
		put("m", num(1), num(2)),
		set("x", binary(binary(binary(num(1), "+", num(2)), "*", num(3)), "-", unary("-", num(4)))),
		each("k", "v", "m", inner),
		show(), show(length("m"), index("m", num(1))),
	)
	reads(t, exampleText, p)
	reads(t, exampleForm, p)
	prints(t, p, exampleForm)
	checks(t, p, api.OK)
	if q := parsed(t, exampleText); len(q.Maps) != 1 || q.Maps[0] != "m" || len(q.Stmts) != 5 {
		t.Errorf("the chapter's example: %+v", q)
	}
}

func TestExampleTable(t *testing.T) {
	printed := func(list ...api.Expr) api.Prog { return api.Prog{Stmts: block(show(list...))} }
	a, b, c, d := name("a"), name("b"), name("c"), name("d")
	reads(t, "", api.Prog{})
	refuses(t, "x = 1", 1, api.ErrSyntax)
	refuses(t, "x = 1;\ny = 2\n\n", 4, api.ErrSyntax)
	refuses(t, "x = 1;\nmap m;", 2, api.ErrSyntax)
	reads(t, "print 9223372036854775807;", printed(num(9223372036854775807)))
	refuses(t, "print 9223372036854775808;", 1, api.ErrRange)
	refuses(t, "print -9223372036854775808;", 1, api.ErrRange)
	refuses(t, "map 9223372036854775808;", 1, api.ErrSyntax)
	refuses(t, "print\n1 <\n2 <\n3;", 3, api.ErrSyntax)
	refuses(t, "print 1 & 2;", 1, api.ErrSyntax)
	refuses(t, "x = 1 $", 1, api.ErrSyntax)
	refuses(t, "print 12a;", 1, api.ErrSyntax)
	refuses(t, "print 0x1;", 1, api.ErrSyntax)
	refuses(t, "if 1 { } else\nwhile 1 { }", 2, api.ErrSyntax)
	refuses(t, "len = 1;", 1, api.ErrSyntax)
	reads(t, "Len = 1;", api.Prog{Stmts: block(set("Len", num(1)))})
	reads(t, "print a - b - c, -!-d;", printed(binary(binary(a, "-", b), "-", c), unary("-", unary("!", unary("-", d)))))
	reads(t, "print 1 || 2 && 3 == 4 + 5 * -6;", printed(binary(num(1), "||", binary(num(2), "&&", binary(num(3), "==", binary(num(4), "+", binary(num(5), "*", unary("-", num(6)))))))))
	prints(t, printed(binary(a, "-", binary(b, "-", c)), binary(binary(a, "<", b), "<", c), unary("-", binary(a, "+", b)), binary(binary(a, "*", b), "+", c)), "print a - (b - c), (a < b) < c, -(a + b), a * b + c;\n")
	prints(t, api.Prog{Stmts: []api.Stmt{{Kind: api.StSet, Name: "x"}}}, "")
	checks(t, api.Prog{Maps: []string{"a", "a"}}, api.ErrNames)
	checks(t, api.Prog{Maps: []string{"if"}}, api.ErrNames)
	checks(t, api.Prog{Maps: []string{"a"}, Stmts: block(set("a", num(1)))}, api.ErrUse)
	checks(t, parsed(t, "break;"), api.ErrLoop)
	checks(t, parsed(t, "while 1 { if 1 { break; } }"), api.OK)
	checks(t, printed(num(-1)), api.ErrUse)
	if e := lang.Check(printed(num(0))); e != api.OK {
		t.Errorf("the number 0: %d", e)
	}
}
