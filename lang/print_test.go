package lang_test

import (
	"math"
	"strings"
	"testing"

	"larder/api"
	"larder/lang"
)

// TestPrintStmts: each statement, alone and within each kind of block.
func TestPrintStmts(t *testing.T) {
	a, b, c := name("a"), name("b"), name("c")
	for want, s := range map[string]api.Stmt{
		"x = a;": set("x", a), "m[a] = b;": put("m", a, b), "delete m[a];": del("m", a), "clear m;": empty("m"), "break;": leave(), "continue;": again(),
		"print;": show(), "print a;": show(a), "print a, b;": show(a, b), "print a, b, c, a;": show(a, b, c, a),
		"x = a + b * c;": set("x", binary(a, "+", binary(b, "*", c))), "m[a || b] = a || b;": put("m", binary(a, "||", b), binary(a, "||", b)), "delete m[a < b];": del("m", binary(a, "<", b)), "print a || b, a && b;": show(binary(a, "||", b), binary(a, "&&", b)),
		"while a {\n}": loop(a), "while a || b {\n}": loop(binary(a, "||", b)), "for k, v in m {\n}": each("k", "v", "m"), "if a {\n}": cond(a, nil, nil), "if a || b {\n}": cond(binary(a, "||", b), nil, nil),
	} {
		prints(t, api.Prog{Stmts: block(s)}, want+"\n")
		prints(t, prog(s, s), "map m;\n"+want+"\n"+want+"\n")
		inner := "\t" + strings.ReplaceAll(want, "\n", "\n\t") + "\n"
		prints(t, api.Prog{Stmts: block(loop(a, s, s))}, "while a {\n"+inner+inner+"}\n")
		prints(t, api.Prog{Stmts: block(each("k", "v", "m", s))}, "for k, v in m {\n"+inner+"}\n")
		prints(t, api.Prog{Stmts: block(cond(a, block(s), nil))}, "if a {\n"+inner+"}\n")
		prints(t, api.Prog{Stmts: block(cond(a, nil, block(leave(), s)))}, "if a {\n} else {\n\tbreak;\n"+inner+"}\n")
	}
	prints(t, api.Prog{}, "")
	prints(t, api.Prog{Maps: []string{"a"}}, "map a;\n")
	prints(t, api.Prog{Maps: []string{"b", "a", "b"}, Stmts: block(leave())}, "map b;\nmap a;\nmap b;\nbreak;\n")
}

// TestPrintExprs: each expression, and each within each.
func TestPrintExprs(t *testing.T) {
	simple := map[string]api.Expr{"0": num(0), "7": num(7), "100": num(100), "9223372036854775807": num(math.MaxInt64), "a": name("a"), "_": name("_"), "len m": length("m")}
	within := func(list map[string]api.Expr) map[string]api.Expr {
		out := map[string]api.Expr{}
		for text, x := range list {
			out["m["+text+"]"], out["has m["+text+"]"] = index("m", x), has("m", x)
			for _, op := range signs {
				if x.Kind == api.ExBinary {
					out[op+"("+text+")"] = unary(op, x)
				} else {
					out[op+text] = unary(op, x)
				}
			}
			if x.Kind == api.ExBinary {
				continue // see TestBrackets
			}
			for _, op := range operators() {
				out[text+" "+op+" 1"], out["a "+op+" "+text] = binary(x, op, num(1)), binary(name("a"), op, x)
			}
		}
		return out
	}
	once := within(simple)
	for _, list := range []map[string]api.Expr{simple, once, within(once)} {
		for text, x := range list {
			prints(t, api.Prog{Stmts: block(show(x))}, "print "+text+";\n")
		}
	}
}

// TestTabs: a statement has as many tabs as there are blocks around it, and eight at most; so has the end of a block, and the lines of its else.
func TestTabs(t *testing.T) {
	tabs := func(n int) string { return strings.Repeat("\t", min(n, 8)) }
	for deep := range 13 {
		ahead, behind := "", ""
		p := api.Prog{Stmts: block(cond(name("a"), block(leave()), block(cond(name("b"), nil, block(again())))), show())}
		inner := tabs(deep) + "if a {\n" + tabs(deep+1) + "break;\n" + tabs(deep) + "} else if b {\n" + tabs(deep) + "} else {\n" + tabs(deep+1) + "continue;\n" + tabs(deep) + "}\n" + tabs(deep) + "print;\n"
		for i := deep - 1; i >= 0; i-- {
			switch i % 4 {
			case 0:
				p.Stmts = block(loop(num(1), p.Stmts...))
				ahead, behind = tabs(i)+"while 1 {\n"+ahead, behind+tabs(i)+"}\n"
			case 1:
				p.Stmts = block(each("k", "v", "m", p.Stmts...))
				ahead, behind = tabs(i)+"for k, v in m {\n"+ahead, behind+tabs(i)+"}\n"
			case 2:
				p.Stmts = block(cond(num(2), p.Stmts, nil))
				ahead, behind = tabs(i)+"if 2 {\n"+ahead, behind+tabs(i)+"}\n"
			case 3:
				p.Stmts = block(cond(num(3), nil, append(p.Stmts, leave())))
				ahead, behind = tabs(i)+"if 3 {\n"+tabs(i)+"} else {\n"+ahead, behind+tabs(i+1)+"break;\n"+tabs(i)+"}\n"
			}
		}
		prints(t, p, ahead+inner+behind)
	}
}

// TestElse: none, an empty one, one of one statement, an if or not, and one of several; chains of ifs, and what ends them.
func TestElse(t *testing.T) {
	a, b, c := name("a"), name("b"), name("c")
	bare := cond(b, nil, nil)
	for _, row := range []struct {
		s    api.Stmt
		want string
	}{
		{cond(a, nil, nil), "if a {\n}\n"},
		{cond(a, nil, []api.Stmt{}), "if a {\n}\n"},
		{cond(a, block(leave()), []api.Stmt{}), "if a {\n\tbreak;\n}\n"},
		{cond(a, nil, block(leave())), "if a {\n} else {\n\tbreak;\n}\n"},
		{cond(a, nil, block(loop(b))), "if a {\n} else {\n\twhile b {\n\t}\n}\n"},
		{cond(a, nil, block(bare)), "if a {\n} else if b {\n}\n"},
		{cond(a, nil, block(cond(b, nil, []api.Stmt{}))), "if a {\n} else if b {\n}\n"},
		{cond(a, nil, block(bare, leave())), "if a {\n} else {\n\tif b {\n\t}\n\tbreak;\n}\n"},
		{cond(a, nil, block(leave(), bare)), "if a {\n} else {\n\tbreak;\n\tif b {\n\t}\n}\n"},
		{cond(a, nil, block(bare, bare)), "if a {\n} else {\n\tif b {\n\t}\n\tif b {\n\t}\n}\n"},
		{cond(a, block(bare), nil), "if a {\n\tif b {\n\t}\n}\n"},
		{cond(a, block(cond(b, nil, block(leave()))), nil), "if a {\n\tif b {\n\t} else {\n\t\tbreak;\n\t}\n}\n"},
		{cond(a, nil, block(cond(b, nil, block(leave())))), "if a {\n} else if b {\n} else {\n\tbreak;\n}\n"},
		{cond(a, nil, block(cond(b, block(again()), block(cond(c, block(leave()), nil))))), "if a {\n} else if b {\n\tcontinue;\n} else if c {\n\tbreak;\n}\n"},
		{cond(a, nil, block(cond(b, nil, block(cond(c, nil, block(leave(), again())))))), "if a {\n} else if b {\n} else if c {\n} else {\n\tbreak;\n\tcontinue;\n}\n"},
		{cond(a, nil, block(cond(b, nil, block(cond(c, nil, nil), leave())))), "if a {\n} else if b {\n} else {\n\tif c {\n\t}\n\tbreak;\n}\n"},
	} {
		p := api.Prog{Stmts: block(row.s)}
		prints(t, p, row.want)
		reads(t, row.want, p)
		in := "while 1 {\n\t" + strings.ReplaceAll(strings.TrimSuffix(row.want, "\n"), "\n", "\n\t") + "\n}\n"
		prints(t, api.Prog{Stmts: block(loop(num(1), row.s))}, in)
	}
	reads(t, "if a { } else { }", api.Prog{Stmts: block(cond(a, nil, nil))})
	reads(t, "if a { } else { if b { } }", api.Prog{Stmts: block(cond(a, nil, block(bare)))})
	reads(t, "if a { } else if b { }", api.Prog{Stmts: block(cond(a, nil, block(bare)))})
	reads(t, "if a { } if b { } else { break; }", api.Prog{Stmts: block(cond(a, nil, nil), cond(b, nil, block(leave())))})
}

// TestBrackets: each two operators on either side, and each below each sign: brackets just where the rules ask for them.
func TestBrackets(t *testing.T) {
	a, b, c := name("a"), name("b"), name("c")
	for _, outer := range operators() {
		for _, inner := range operators() {
			bare := "a " + inner + " b"
			left, right := bare, bare
			if ruleOf(inner) < ruleOf(outer) || ruleOf(inner) == 2 && ruleOf(outer) == 2 {
				left = "(" + bare + ")"
			}
			if ruleOf(inner) <= ruleOf(outer) {
				right = "(" + bare + ")"
			}
			x := binary(a, inner, b)
			hasForm(t, binary(x, outer, c), left+" "+outer+" c")
			hasForm(t, binary(c, outer, x), "c "+outer+" "+right)
			hasForm(t, binary(x, outer, x), left+" "+outer+" "+right)
			for _, sign := range signs {
				hasForm(t, unary(sign, x), sign+"("+bare+")")
				hasForm(t, binary(unary(sign, x), outer, c), sign+"("+bare+") "+outer+" c")
				hasForm(t, binary(unary(sign, a), outer, unary(sign, b)), sign+"a "+outer+" "+sign+"b")
				hasForm(t, unary(sign, binary(x, outer, c)), sign+"("+left+" "+outer+" c)")
			}
			hasForm(t, index("m", x), "m["+bare+"]")
			hasForm(t, has("m", binary(x, outer, c)), "has m["+left+" "+outer+" c]")
			hasForm(t, binary(index("m", x), outer, has("m", x)), "m["+bare+"] "+outer+" has m["+bare+"]")
		}
	}
}

// hasForm: the expression is written so, as the plain writer does it, and the text is read as that expression.
func hasForm(t *testing.T, x api.Expr, want string) {
	t.Helper()
	p := api.Prog{Stmts: block(show(x))}
	text := "print " + want + ";\n"
	prints(t, p, text)
	reads(t, text, p)
	if plain := plainText(x); plain != want {
		t.Errorf("the test's own writer writes %q, not %q", plain, want)
	}
}

// TestThreeOperators: each three rules in each of the five shapes.
func TestThreeOperators(t *testing.T) {
	a, b, c, d := name("a"), name("b"), name("c"), name("d")
	few := []string{"||", "&&", "==", "<", "-", "+", "/"}
	for _, o := range few {
		for _, p := range few {
			for _, q := range few {
				for _, x := range []api.Expr{
					binary(binary(binary(a, o, b), p, c), q, d), binary(binary(a, o, binary(b, p, c)), q, d), binary(binary(a, o, b), p, binary(c, q, d)), binary(a, o, binary(binary(b, p, c), q, d)), binary(a, o, binary(b, p, binary(c, q, d))),
				} {
					hasForm(t, x, plainText(x))
				}
			}
		}
	}
}

// TestPrintDrawn: drawn programs, held against the plain writer.
func TestPrintDrawn(t *testing.T) {
	d := draws(2304)
	for range 2000 {
		p := d.prog()
		if got, want := lang.Print(p), plainPrint(p); got != want {
			t.Fatalf("P23.2: Print = %q, want %q", got, want)
		}
	}
}
