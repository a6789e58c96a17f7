package lang_test

import (
	"math"
	"strings"
	"testing"

	"larder/api"
	"larder/lang"
)

// asFormed: Print answers a text just of a program that is formed, and Check takes it for one just then. Is it?
func asFormed(t *testing.T, p api.Prog) bool {
	t.Helper()
	formed := plainFormed(p)
	text := lang.Print(p)
	switch {
	case !formed && text != "":
		t.Errorf("P23.2: Print of a program that is not formed: %q, of %+v", short(text), p)
	case formed && text != plainPrint(p):
		t.Errorf("P23.2: Print of a program that is formed: %q, want %q", short(text), short(plainPrint(p)))
	}
	if e, want := lang.Check(p), plainCheck(p); e != want {
		t.Errorf("P23.6: Check = %d, want %d, of %s", e, want, told(p))
	}
	return formed
}

var oddNames = []string{"", "if", "len", "1", "1x", "x ", " x", "x y", "x-y", "é", "x\x00", "x\n", "x.y", ";", "map m"}

// TestFormedStmts: statements of all kinds and of none, with all mixes of what they may use.
func TestFormedStmts(t *testing.T) {
	formed := 0
	lists := [][]api.Expr{nil, {}, {num(1)}, {num(1), name("y")}, {num(1), num(2), num(3)}}
	blocks := [][]api.Stmt{nil, {}, {leave()}, {leave(), show()}}
	for _, kind := range []int{-1, 0, 1, 2, 3, 4, 5, 6, 7, 8, 9, 10, 11, 12, math.MinInt, math.MaxInt, 1<<32 + 1, 1<<8 + 5} {
		for _, n := range []string{"", "x", "m", "in"} {
			for _, key := range []string{"", "k", "0"} {
				for _, val := range []string{"", "v", "_ "} {
					for _, exprs := range lists {
						for i := range len(blocks) * len(blocks) {
							s := api.Stmt{Kind: kind, Name: n, Key: key, Val: val, Exprs: exprs, Body: blocks[i%len(blocks)], Else: blocks[i/len(blocks)]}
							if asFormed(t, prog(loop(num(1), s))) {
								formed++
							}
						}
					}
				}
			}
		}
	}
	// By the table: a name, or none, twice (m and x); so many empty lists, twice (nil and empty).
	if want := 2*1*4 + 2*1*4 + 2*1*4 + 2*2*4 + 5*4 + 16 + 8 + 2*2*8 + 2*8; formed != want {
		t.Errorf("of the statements %d are formed, not %d", formed, want)
	}
}

// TestFormedExprs: expressions of all kinds and of none, with all mixes of what they may use.
func TestFormedExprs(t *testing.T) {
	formed := 0
	ops := append([]string{"", "!", "=", "&", "|", "++", "**", " +", "+ ", "<>", "&&&", "(", "[", ",", "x", "len", "//", "\n"}, operators()...)
	for _, kind := range []int{-1, 0, 1, 2, 3, 4, 5, 6, 7, 8, 9, math.MinInt, math.MaxInt, 1<<32 + 1} {
		for _, n := range []int64{0, 1, math.MaxInt64, -1, math.MinInt64} {
			for _, s := range []string{"", "x", "m", "map"} {
				for _, op := range ops {
					for _, args := range [][]api.Expr{nil, {}, {num(1)}, {num(1), name("y")}, {num(1), num(2), num(3)}} {
						if asFormed(t, prog(show(api.Expr{Kind: kind, Num: n, Name: s, Op: op, Args: args}))) {
							formed++
						}
					}
				}
			}
		}
	}
	if want := 3*2 + 2*2 + 2 + 2 + 2*2 + 2 + 13; formed != want {
		t.Errorf("of the expressions %d are formed, not %d", formed, want)
	}
}

// TestFormedNames: each place of a name, with each that is none.
func TestFormedNames(t *testing.T) {
	for _, n := range append(append([]string{"x", "m", "_", "Map", "lens", strings.Repeat("n", 100000)}, oddNames...), wordList...) {
		want := isPlainName(n)
		for i, p := range []api.Prog{
			{Maps: []string{n}}, {Maps: []string{"a", n, "b"}}, {Maps: []string{"a", "b", n}}, prog(set(n, num(1))), prog(put(n, num(1), num(2))), prog(del(n, num(1))), prog(empty(n)),
			prog(each(n, "v", "m")), prog(each("k", n, "m")), prog(each("k", "v", n)), prog(show(name(n))), prog(show(index(n, num(1)))), prog(show(has(n, num(1)))), prog(show(length(n))),
		} {
			if asFormed(t, p) != want {
				t.Errorf("the test's own words say otherwise of %q in place %d", short(n), i)
			}
		}
	}
	for c := range 256 {
		for _, n := range []string{string([]byte{byte(c)}), string([]byte{'x', byte(c)}), string([]byte{'x', byte(c), 'y'})} {
			asFormed(t, prog(set(n, num(1)), show(length(n))))
		}
	}
}

// inEachPlace: programs that have the statement at each depth and in each place in which one may stand.
func inEachPlace(s api.Stmt) []api.Prog {
	one := num(1)
	deep := block(s)
	for i := range 30 {
		switch i % 4 {
		case 0:
			deep = block(show(), loop(one, deep...))
		case 1:
			deep = block(cond(one, deep, nil), show())
		case 2:
			deep = block(cond(one, nil, deep))
		case 3:
			deep = block(each("k", "v", "m", deep...))
		}
	}
	chain := block(s)
	for range 10 {
		chain = block(cond(one, block(show()), chain))
	}
	return []api.Prog{
		prog(s), prog(show(), s), prog(s, show()), prog(loop(one, s)), prog(loop(one, show(), s, show())), prog(each("k", "v", "m", s)), prog(cond(one, block(s), nil)), prog(cond(one, block(s), block(show()))), prog(cond(one, nil, block(s))), prog(cond(one, nil, block(show(), s))),
		prog(cond(one, nil, block(cond(one, block(s), nil)))), prog(cond(one, nil, block(cond(one, nil, block(show(), s))))), prog(loop(one, loop(one, loop(one, s)))), prog(deep...), prog(chain...),
	}
}

// withExpr: statements that have the expression at each depth and in each place in which one may stand.
func withExpr(x api.Expr) []api.Stmt {
	one := num(1)
	deep := x
	for i := range 20 {
		switch i % 5 {
		case 0:
			deep = index("m", deep)
		case 1:
			deep = has("m", deep)
		case 2:
			deep = unary("-", deep)
		case 3:
			deep = binary(deep, "+", one)
		case 4:
			deep = binary(one, "||", deep)
		}
	}
	list := []api.Stmt{put("m", x, one), put("m", one, x), set("x", x), del("m", x), show(one, x), show(x, one), show(one, x, one), cond(x, nil, nil), loop(x)}
	for _, y := range []api.Expr{x, index("m", x), has("m", x), unary("-", x), unary("!", x), binary(x, "<", one), binary(one, "<", x), binary(one, "*", unary("-", index("m", x))), deep} {
		list = append(list, show(y))
	}
	return list
}

// oddStmts, oddExprs: such that are not formed, one fault each.

var oddStmts = []api.Stmt{
	{}, {Kind: 11}, {Kind: -5}, {Kind: api.StSet, Name: "x"}, {Kind: api.StSet, Exprs: []api.Expr{num(1)}}, {Kind: api.StPut, Name: "m", Exprs: []api.Expr{num(1)}}, {Kind: api.StDelete, Name: "m"}, {Kind: api.StClear}, {Kind: api.StClear, Name: "clear"}, {Kind: api.StPrint, Val: "x"}, {Kind: api.StPrint, Body: block(show())},
	{Kind: api.StIf, Body: block(show())}, {Kind: api.StIf, Exprs: []api.Expr{num(1), num(1)}}, {Kind: api.StWhile, Exprs: []api.Expr{num(1)}, Else: block(show())}, {Kind: api.StRange, Name: "m", Val: "v"}, {Kind: api.StRange, Name: "m", Key: "k", Val: "v", Exprs: []api.Expr{num(1)}}, {Kind: api.StBreak, Name: "x"}, {Kind: api.StContinue, Body: block(show())}, {Kind: api.StContinue, Key: "k"},
}

var oddExprs = []api.Expr{
	{}, {Kind: 8}, {Kind: -1}, num(-1), num(math.MinInt64), {Kind: api.ExNum, Name: "x"}, {Kind: api.ExName}, name("has"), {Kind: api.ExName, Name: "x", Args: []api.Expr{num(1)}}, {Kind: api.ExIndex, Name: "m"}, {Kind: api.ExHas, Args: []api.Expr{num(1)}}, {Kind: api.ExLen, Name: "m", Num: 1}, {Kind: api.ExUnary, Op: "-"}, unary("+", num(1)), unary("", num(1)), {Kind: api.ExBinary, Op: "+", Args: []api.Expr{num(1)}}, binary(num(1), "!", num(1)), binary(num(1), "=", num(1)), binary(num(1), "", num(1)),
}

// TestNotFormedAnywhere: one statement or one expression that is not formed, wherever it stands, leaves a program that is not formed.
func TestNotFormedAnywhere(t *testing.T) {
	for _, s := range oddStmts {
		for _, p := range inEachPlace(s) {
			if asFormed(t, p) {
				t.Errorf("the test's own words take %+v for formed", s)
			}
		}
	}
	for _, x := range oddExprs {
		for _, s := range withExpr(x) {
			for _, p := range inEachPlace(s) {
				if asFormed(t, p) {
					t.Errorf("the test's own words take %+v for formed", x)
				}
			}
		}
	}
	for _, s := range withExpr(binary(num(0), "%", num(math.MaxInt64))) {
		for _, p := range inEachPlace(s) {
			if !asFormed(t, p) {
				t.Errorf("the test's own words don't take %+v for formed", s)
			}
		}
	}
}

// TestNotFormedDrawn: drawn programs with one field changed somewhere.
func TestNotFormedDrawn(t *testing.T) {
	d := draws(2310)
	count := 0
	for range 4000 {
		p := normal(d.prog())
		d.spoil(p.Stmts)
		if !asFormed(t, p) {
			count++
		}
	}
	if count < 500 || count > 3500 {
		t.Errorf("of 4000 programs %d are not formed: too few of one kind", count)
	}
}

// spoil: one field of one of the statements, or of one below, is changed.
func (d drawer) spoil(list []api.Stmt) {
	if len(list) == 0 {
		return
	}
	s := &list[d.Intn(len(list))]
	switch d.Intn(9) {
	case 0:
		s.Kind = d.Intn(13) - 1
	case 1:
		s.Name = pick(d, oddNames)
	case 2:
		s.Key = pick(d, someNames)
	case 3:
		s.Exprs = append(s.Exprs, d.expr(2))
	case 4:
		s.Else = append(s.Else, d.stmt(1))
	case 5, 6:
		d.spoil(s.Body)
		d.spoil(s.Else)
	default:
		d.spoilExpr(s.Exprs)
	}
}

func (d drawer) spoilExpr(list []api.Expr) {
	if len(list) == 0 {
		return
	}
	x := &list[d.Intn(len(list))]
	switch d.Intn(8) {
	case 0:
		x.Kind = d.Intn(10) - 1
	case 1:
		x.Num--
	case 2:
		x.Name = pick(d, someNames)
	case 3:
		x.Op = pick(d, markList)
	case 4:
		x.Args = append(x.Args, d.expr(1))
	default:
		d.spoilExpr(x.Args)
	}
}
