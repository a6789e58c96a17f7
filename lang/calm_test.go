package lang_test

import (
	"reflect"
	"strings"
	"testing"
	"unsafe"

	"larder/api"
	"larder/lang"
)

// roomy: the program in memory of its own, each list with something in its spare room.
func roomy(p api.Prog) api.Prog {
	return api.Prog{Maps: roomyList(p.Maps, "spare"), Stmts: roomyStmts(p.Stmts)}
}

func roomyList[T any](list []T, spare T) []T {
	return append(append([]T{}, list...), spare, spare)[:len(list)]
}

func roomyStmts(list []api.Stmt) []api.Stmt {
	out := roomyList(list, api.Stmt{Kind: 99})
	for i := range out {
		s := &out[i]
		s.Exprs, s.Body, s.Else = roomyExprs(s.Exprs), roomyStmts(s.Body), roomyStmts(s.Else)
	}
	return out
}

func roomyExprs(list []api.Expr) []api.Expr {
	out := roomyList(list, api.Expr{Kind: 99})
	for i := range out {
		out[i].Args = roomyExprs(out[i].Args)
	}
	return out
}

// withRoom: the program, each list with its spare room.
func withRoom(p api.Prog) api.Prog {
	return api.Prog{Maps: p.Maps[:cap(p.Maps)], Stmts: stmtsWithRoom(p.Stmts)}
}

func stmtsWithRoom(list []api.Stmt) []api.Stmt {
	var out []api.Stmt
	for _, s := range list[:cap(list)] {
		s.Exprs, s.Body, s.Else = exprsWithRoom(s.Exprs), stmtsWithRoom(s.Body), stmtsWithRoom(s.Else)
		out = append(out, s)
	}
	return out
}

func exprsWithRoom(list []api.Expr) []api.Expr {
	var out []api.Expr
	for _, x := range list[:cap(list)] {
		x.Args = exprsWithRoom(x.Args)
		out = append(out, x)
	}
	return out
}

// TestPrintAndCheckChangeNothing: neither the lists of a program nor the room behind them; nor is one of them kept.
func TestPrintAndCheckChangeNothing(t *testing.T) {
	d := draws(2312)
	for range 1000 {
		p := normal(d.prog())
		if d.Intn(2) == 0 {
			d.spoil(p.Stmts)
		}
		if d.Intn(2) == 0 {
			fit(p, d)
		}
		p = roomy(p)
		before := roomy(p)
		text, e := lang.Print(p), lang.Check(p)
		if !reflect.DeepEqual(withRoom(p), withRoom(before)) {
			t.Fatalf("P23.7: Print or Check changes what it is given: %s", told(before))
		}
		if lang.Print(before) != text || lang.Check(before) != e || lang.Print(p) != text {
			t.Fatalf("W2: asked again, they answer otherwise: %s", told(before))
		}
		scribble(p)
		if got, want := lang.Check(p), plainCheck(p); got != want {
			t.Fatalf("P23.7: Check keeps something: %d, want %d", got, want)
		}
		if plainFormed(p) != (lang.Print(p) != "") && len(p.Maps)+len(p.Stmts) > 0 {
			t.Fatalf("P23.7: Print keeps something")
		}
	}
}

// scribble: all lists of a program, and the room behind them, are written over, the innermost ones first.
func scribble(p api.Prog) {
	scribbleStmts(p.Stmts)
	for i := range p.Maps[:cap(p.Maps)] {
		p.Maps[:cap(p.Maps)][i] = "scribbled"
	}
}

func scribbleStmts(list []api.Stmt) {
	list = list[:cap(list)]
	for i, s := range list {
		scribbleExprs(s.Exprs)
		scribbleStmts(s.Body)
		scribbleStmts(s.Else)
		list[i] = empty("scribbled")
	}
}

func scribbleExprs(list []api.Expr) {
	list = list[:cap(list)]
	for i, x := range list {
		scribbleExprs(x.Args)
		list[i] = name("scribbled")
	}
}

// fillRoom: something is written into the spare room of each list of the program, and into no list.
func fillRoom(p api.Prog) {
	fillRoomOf(p.Maps, "spare")
	fillStmts(p.Stmts)
}

func fillRoomOf[T any](list []T, with T) {
	room := list[len(list):cap(list)]
	for i := range room {
		room[i] = with
	}
}

func fillStmts(list []api.Stmt) {
	fillRoomOf(list, api.Stmt{Kind: 99})
	for _, s := range list {
		fillExprs(s.Exprs)
		fillStmts(s.Body)
		fillStmts(s.Else)
	}
}

func fillExprs(list []api.Expr) {
	fillRoomOf(list, api.Expr{Kind: 99})
	for _, x := range list {
		fillExprs(x.Args)
	}
}

// TestParseAnswersNewMemory: what is done to an answer is seen in no other one; no list of it lies in another's room.
func TestParseAnswersNewMemory(t *testing.T) {
	d := draws(2313)
	for range 1000 {
		p := d.prog()
		text := d.text(p)
		if countTokens(text) > api.MaxTokens {
			continue
		}
		first, second := parsed(t, text), parsed(t, text)
		fillRoom(first)
		if !same(first, p) {
			t.Fatalf("W3: the lists of an answer share their room: %q", short(text))
		}
		scribble(first)
		if !same(second, p) {
			t.Fatalf("W3: two answers share a list: %q", short(text))
		}
		reads(t, text, p)
	}
}

// within: does the text lie in the other's bytes?
func within(part, whole string) bool {
	if part == "" {
		return false
	}
	a, b := uintptr(unsafe.Pointer(unsafe.StringData(part))), uintptr(unsafe.Pointer(unsafe.StringData(whole)))
	return a >= b && a < b+uintptr(len(whole))
}

// TestParseKeepsNothing: no name and no operator of the tree lies in the text's bytes, nor does what is written lie in the tree's.
func TestParseKeepsNothing(t *testing.T) {
	d := draws(2314)
	for range 300 {
		text := strings.Clone(d.text(d.prog()))
		p, _, e := lang.Parse(text)
		if e != api.OK {
			continue
		}
		form := lang.Print(p)
		stmts, exprs := inAll(p)
		parts := append([]string{}, p.Maps...)
		for _, s := range stmts {
			parts = append(parts, s.Name, s.Key, s.Val)
		}
		for _, x := range exprs {
			parts = append(parts, x.Name, x.Op)
		}
		for _, part := range parts {
			if within(part, text) || within(form, part) {
				t.Fatalf("W3: the part %q is kept of what was handed in", part)
			}
		}
	}
}

// TestParseAsBefore: what a text is read as hangs on no other one.
func TestParseAsBefore(t *testing.T) {
	texts := append([]string{"x = $;", "print (", strings.Repeat("(", 9000), "print 9223372036854775808;", "\n\n\n\n$", strings.Repeat(" ", api.MaxText+1)}, samples...)
	for _, a := range texts {
		p, line, e := lang.Parse(a)
		for _, b := range texts {
			lang.Parse(b)
			if q, again, f := lang.Parse(a); !reflect.DeepEqual(p, q) || line != again || e != f {
				t.Errorf("W2: behind %q another answer is told of %q", short(b), short(a))
			}
		}
	}
}

// deepest: for each way in which a text can lie deep in itself, one that is as deep as MaxTokens lets it be: what stands once, and how many tokens each further round has.
var deepest = []struct {
	ahead, open, middle, shut, behind string
}{
	{"x =", "(", "1", ")", ";"}, {"x =", "-", "1", "", ";"}, {"x =", "!", "1", "", ";"}, {"x =", "- !", "( 1 )", "", ";"}, {"x =", "m [", "1", "]", ";"}, {"x =", "has m [", "1", "]", ";"}, {"x =", "( 1 +", "1", ")", ";"}, {"x =", "(", "1", "* 1 )", ";"}, {"x =", "1 +", "1", "", ";"}, {"x =", "1 ||", "1", "", ";"}, {"x =", "1 + 2 * 3 ||", "1", "", ";"}, {"x =", "1 < ( 2 &&", "1", ")", ";"}, {"print 1", ", 1", "", "", ";"}, {"m [", "m [", "1", "]", "] = 1 ;"}, {"delete m [", "m [", "1", "]", "] ;"},
	{"", "while 1 {", "", "}", ""}, {"", "if 1 {", "", "}", ""}, {"", "if 1 { } else {", "", "}", ""}, {"if 1 { }", "else if 1 { }", "", "", ""}, {"if 1 { }", "else if 1 { }", "else { print ; }", "", ""}, {"", "for k , v in m {", "break ;", "}", ""}, {"", "if ( 1 ) { while - 1 {", "", "} }", ""}, {"", "while 1 { } if 1 { } else {", "print ;", "} break ;", ""},
}

// TestDeepestTexts: they are read, written and checked.
func TestDeepestTexts(t *testing.T) {
	for _, row := range deepest {
		once := len(strings.Fields(row.ahead + " " + row.middle + " " + row.behind))
		round := len(strings.Fields(row.open + " " + row.shut))
		rounds := (api.MaxTokens - once) / round
		text := strings.Join([]string{row.ahead, strings.Repeat(row.open+" ", rounds), row.middle, strings.Repeat(row.shut+" ", rounds), row.behind}, "\n")
		p := parsed(t, text)
		p.Maps = []string{"m"}
		want := api.OK
		if depthOf(p.Stmts) > 64 {
			want = api.ErrDeep
		}
		if strays(p.Stmts) {
			want = api.ErrLoop
		}
		if e := lang.Check(p); e != want {
			t.Errorf("P23.6: Check of %q, %d deep: %d, want %d", short(text), depthOf(p.Stmts), e, want)
		}
		p.Maps = nil
		form := lang.Print(p)
		if was, now := countTokens(text), countTokens(form); now > was {
			t.Errorf("P23.3: a text of %d tokens has a form of %d: %q", was, now, short(text))
		}
		reads(t, form, p)
		if again := lang.Print(parsed(t, form)); again != form {
			t.Errorf("P23.3: Print(Parse(Print(p))) is another text: %q", short(text))
		}
		more := strings.Join([]string{row.ahead, strings.Repeat(row.open+" ", rounds+1), row.middle, strings.Repeat(row.shut+" ", rounds+1), row.behind}, "\n")
		if _, _, e := lang.Parse(more); e != api.ErrSyntax {
			t.Errorf("P23.1: one round more is answered by %d: %q", e, short(more))
		}
		for _, half := range []string{row.ahead + strings.Repeat(row.open+" ", rounds), row.ahead + strings.Repeat(row.open+" ", 100000)} {
			if len(half) <= api.MaxText {
				lang.Parse(half) // it ends
			}
		}
	}
}

// TestGreatTrees: trees that are as deep as the document's limits let them be, and such with very many parts, each counted as often as it is reached.
func TestGreatTrees(t *testing.T) {
	const deep = 1<<16 - 2
	x, y, s := num(1), num(1), show()
	e := cond(num(1), nil, nil)
	for range deep {
		x, y, s, e = unary("-", x), binary(num(1), "-", y), loop(num(1), s), cond(num(1), nil, block(e))
	}
	for _, s := range []api.Stmt{show(x), show(y), s, e} {
		checks(t, prog(s), api.ErrDeep)
		if text := lang.Print(prog(s)); len(text) < deep {
			t.Errorf("P23.2: of a deep program only %d bytes are written", len(text))
		}
	}
	prints(t, prog(show(x)), "map m;\nprint "+strings.Repeat("-", deep)+"1;\n")
	prints(t, prog(show(y)), "map m;\nprint "+strings.Repeat("1 - (", deep-1)+"1 - 1"+strings.Repeat(")", deep-1)+";\n")
	prints(t, prog(e), "map m;\n"+strings.Repeat("if 1 {\n} else ", deep)+"if 1 {\n}\n")
	wide := num(0)
	for range 20 {
		wide = binary(wide, "+", wide)
	}
	checks(t, prog(show(wide)), api.OK)
	if text := lang.Print(prog(show(wide))); strings.Count(text, "0") != 1<<20 {
		t.Errorf("P23.2: of a great program only %d bytes are written", len(text))
	}
	list := block(leave())
	for range 20 {
		list = block(loop(num(1), list...), cond(num(1), list, nil))
	}
	checks(t, prog(list...), api.ErrLoop)
	checks(t, prog(loop(num(1), list...)), api.OK)
	checks(t, prog(append(list, show(length("x")))...), api.ErrUse)
}
