package lang_test

import (
	"math"
	"slices"
	"strings"
	"testing"

	"larder/api"
	"larder/lang"
)

// thereAndBack: P23.3 for a program that is formed.
func thereAndBack(t *testing.T, p api.Prog) {
	t.Helper()
	text := lang.Print(p)
	if len(text) > api.MaxText || countTokens(text) > api.MaxTokens {
		t.Fatalf("the test's program is too long: %d bytes", len(text))
	}
	q, line, e := lang.Parse(text)
	if line != 0 || e != api.OK || !same(p, q) {
		t.Errorf("P23.3: Parse(Print(p)) is not p: %+v, line %d, error %d, of %q", q, line, e, short(text))
	}
	if again := lang.Print(q); again != text {
		t.Errorf("P23.3: Print(Parse(Print(p))) = %q, want %q", short(again), short(text))
	}
}

// fromText: P23.3 for a text that is a program.
func fromText(t *testing.T, text string) {
	t.Helper()
	p := parsed(t, text)
	if !plainFormed(p) {
		t.Errorf("P23.3: Parse(%q) is not formed: %+v", short(text), p)
	}
	form := lang.Print(p)
	if was, now := countTokens(text), countTokens(form); now > was {
		t.Errorf("P23.3: a text of %d tokens has a form of %d: %q", was, now, short(text))
	}
	thereAndBack(t, p)
}

// TestBackFromTrees: drawn programs, also such with lists that are empty and not nil.
func TestBackFromTrees(t *testing.T) {
	thereAndBack(t, api.Prog{})
	thereAndBack(t, api.Prog{Maps: []string{}, Stmts: []api.Stmt{}})
	d := draws(2305)
	for range 3000 {
		p := d.prog()
		thereAndBack(t, p)
		thereAndBack(t, withEmptyLists(p))
		if a, b := lang.Print(p), lang.Print(withEmptyLists(p)); a != b {
			t.Errorf("P23.2: with empty lists for nil Print answers %q, not %q", b, a)
		}
	}
}

// withEmptyLists: the program with an empty list, which is not nil, for each nil.
func withEmptyLists(p api.Prog) api.Prog {
	return api.Prog{Maps: append([]string{}, p.Maps...), Stmts: emptyStmts(p.Stmts)}
}

func emptyStmts(list []api.Stmt) []api.Stmt {
	out := []api.Stmt{}
	for _, s := range list {
		s.Exprs, s.Body, s.Else = emptyExprs(s.Exprs), emptyStmts(s.Body), emptyStmts(s.Else)
		out = append(out, s)
	}
	return out
}

func emptyExprs(list []api.Expr) []api.Expr {
	out := []api.Expr{}
	for _, x := range list {
		x.Args = emptyExprs(x.Args)
		out = append(out, x)
	}
	return out
}

// TestBackFromTexts: texts of drawn programs with brackets, zeros, blocks and empty Elses that leave nothing in the tree.
func TestBackFromTexts(t *testing.T) {
	d := draws(2306)
	for range 3000 {
		p := d.prog()
		text := d.text(p)
		if countTokens(text) > api.MaxTokens {
			continue
		}
		reads(t, text, p)
		fromText(t, text)
	}
	for _, text := range samples {
		fromText(t, text)
	}
}

// TestBackOfEachNumber: numbers at the edges, and each sum of two powers of ten and of two.
func TestBackOfEachNumber(t *testing.T) {
	list := []int64{0, 1, 9, 10, 11, math.MaxInt32, math.MaxInt64, math.MaxInt64 - 1}
	for n := int64(1); n > 0; n *= 2 {
		list = append(list, n, n-1, n+1)
	}
	for n := int64(1); n <= math.MaxInt64/10; n *= 10 {
		list = append(list, n, n-1, n+1, n*9)
	}
	for _, n := range list {
		thereAndBack(t, prog(show(num(n), unary("-", num(n))), set("x", num(n))))
	}
}

// TestBackAtTheLimits: forms with just MaxTokens tokens and with just MaxText bytes are read; longer ones are written all the same.
func TestBackAtTheLimits(t *testing.T) {
	thereAndBack(t, plainRead(lines(programOf(api.MaxTokens))))
	for _, count := range []int{8193, 20000} {
		p := plainRead(lines(programOf(count)))
		text := lang.Print(p)
		if text != plainPrint(p) {
			t.Errorf("P23.2: a program of %d tokens is written otherwise", count)
		}
		refuses(t, text, lineOfToken(text, 8193), api.ErrSyntax)
	}
	long := strings.Repeat("n", api.MaxText-len(" = 1;\n"))
	thereAndBack(t, api.Prog{Stmts: block(set(long, num(1)))})
	prints(t, api.Prog{Stmts: block(set(long+"n", num(1)))}, long+"n = 1;\n")
	refuses(t, long+"n = 1;\n", 0, api.ErrSyntax)
	// A text that is read may have a form that is too long to be read.
	text := "x=" + strings.Repeat("a+", 4000) + strings.Repeat("b", api.MaxText-8003) + ";"
	p := parsed(t, text)
	form := lang.Print(p)
	if len(form) <= api.MaxText || countTokens(form) != countTokens(text) {
		t.Errorf("P23.3: a form of %d bytes and %d tokens", len(form), countTokens(form))
	}
	refuses(t, form, 0, api.ErrSyntax)
}

func lineOfToken(text string, count int) int { return plainTokens(text)[count-1].line }

// TestNoBracketTooMany: P23.4: whichever pair is left out, another program is read, or none.
func TestNoBracketTooMany(t *testing.T) {
	d := draws(2307)
	pairs := 0
	for range 3000 {
		pairs += withoutEachPair(t, api.Prog{Stmts: block(set("x", d.expr(6)))})
	}
	for range 100 {
		pairs += withoutEachPair(t, d.prog())
	}
	for _, outer := range operators() {
		for _, inner := range operators() {
			x := binary(name("a"), inner, name("b"))
			pairs += withoutEachPair(t, prog(show(binary(x, outer, x), unary("-", x), unary("!", binary(x, outer, x)))))
		}
	}
	if pairs < 5000 {
		t.Errorf("P23.4: only %d pairs were left out", pairs)
	}
}

// withoutEachPair: how many there are.
func withoutEachPair(t *testing.T, p api.Prog) int {
	t.Helper()
	var tokens []string
	list := plainTokenList(plainTokens(lang.Print(p)))
	for _, k := range list[:len(list)-1] {
		tokens = append(tokens, k.text)
	}
	pairs := 0
	for at, k := range tokens {
		if k != "(" {
			continue
		}
		pairs++
		shut := list.close(at)
		text := strings.Join(slices.Concat(tokens[:at], tokens[at+1:shut], tokens[shut+1:]), " ")
		if q, _, e := lang.Parse(text); e == api.OK && same(p, q) {
			t.Errorf("P23.4: a pair of brackets too many: %q is read as %q", text, lang.Print(p))
		}
	}
	return pairs
}
