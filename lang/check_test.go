package lang_test

import (
	"fmt"
	"slices"
	"testing"

	"larder/api"
	"larder/lang"
)

// manyMaps: so many names.
func manyMaps(count int) []string {
	var list []string
	for i := range count {
		list = append(list, fmt.Sprint("m", i))
	}
	return list
}

// TestCheckMaps: sixteen at most, each a name, none twice.
func TestCheckMaps(t *testing.T) {
	for count := range 40 {
		want := api.OK
		if count > 16 {
			want = api.ErrNames
		}
		checks(t, api.Prog{Maps: manyMaps(count)}, want)
	}
	for count := 2; count <= 17; count++ {
		for i := range count {
			for j := range count {
				list := manyMaps(count)
				list[i] = list[j]
				want := api.OK
				if i != j || count > 16 {
					want = api.ErrNames
				}
				checks(t, api.Prog{Maps: list}, want)
			}
		}
	}
	for _, n := range append(slices.Clone(oddNames), wordList...) {
		for i := range 16 {
			list := manyMaps(16)
			list[i] = n
			checks(t, api.Prog{Maps: list}, api.ErrNames)
		}
	}
	checks(t, api.Prog{Maps: []string{"a", "A", "_a", "a_", "aa", "a0"}}, api.OK)
	checks(t, api.Prog{Maps: []string{}}, api.OK)
}

// TestCheckNames: each place of a name, with a map's and with another, in each place of a program.
func TestCheckNames(t *testing.T) {
	uses := func(n string) (asMap, asVar []api.Stmt) {
		one := num(1)
		asMap = []api.Stmt{put(n, one, one), del(n, one), empty(n), each("k", "v", n)}
		asVar = []api.Stmt{set(n, one), each(n, "v", "m"), each("k", n, "m"), each(n, n, "m")}
		for _, x := range []api.Expr{index(n, one), has(n, one), length(n)} {
			asMap = append(asMap, withExpr(x)...)
		}
		return asMap, append(asVar, withExpr(name(n))...)
	}
	for _, isMap := range []bool{false, true} {
		n := "x"
		if isMap {
			n = "m"
		}
		asMap, asVar := uses(n)
		for i, list := range [][]api.Stmt{asMap, asVar} {
			want := api.OK
			if isMap != (i == 0) {
				want = api.ErrUse
			}
			for _, s := range list {
				for _, p := range inEachPlace(s) {
					checks(t, p, want)
				}
			}
		}
	}
	// Whichever of the maps it is; and names that only look like one.
	for _, m := range manyMaps(16) {
		checks(t, api.Prog{Maps: manyMaps(16), Stmts: block(empty(m), show(length(m)))}, api.OK)
		checks(t, api.Prog{Maps: manyMaps(16), Stmts: block(set(m, num(1)))}, api.ErrUse)
		checks(t, api.Prog{Maps: manyMaps(16), Stmts: block(set(m+"x", num(1)), set("M", name("m")))}, api.OK)
		checks(t, api.Prog{Maps: manyMaps(16), Stmts: block(empty(m + "_"))}, api.ErrUse)
	}
	checks(t, api.Prog{Stmts: block(set("x", name("y")), show(name("z")))}, api.OK)
	checks(t, api.Prog{Stmts: block(empty("m"))}, api.ErrUse)
	checks(t, prog(each("k", "k", "m", set("k", name("k")))), api.OK)
}

// A statement's places, from the innermost outwards: an if's Body, its Else, the Bodies of the loops.
const placeKinds = "iewf"

func placed(s api.Stmt, places string) api.Stmt {
	for _, c := range places {
		switch c {
		case 'i':
			s = cond(num(1), block(show(), s), nil)
		case 'e':
			s = cond(num(1), block(show()), block(s))
		case 'w':
			s = loop(num(1), s, show())
		case 'f':
			s = each("k", "v", "m", s)
		}
	}
	return s
}

// TestCheckLoops: a break and a continue in all rows of up to five ifs, elses, whiles and fors in one another: right, where one of these is a loop.
func TestCheckLoops(t *testing.T) {
	rows := []string{""}
	for i := 0; i < len(rows); i++ {
		want := api.ErrLoop
		if slices.ContainsFunc([]rune(rows[i]), func(c rune) bool { return c == 'w' || c == 'f' }) {
			want = api.OK
		}
		for _, s := range []api.Stmt{leave(), again()} {
			checks(t, prog(placed(s, rows[i])), want)
			checks(t, prog(loop(num(1)), placed(s, rows[i]), loop(num(1))), want)
			checks(t, prog(loop(num(1), leave()), cond(num(1), nil, block(cond(num(2), nil, block(show(), placed(s, rows[i])))))), want)
			checks(t, prog(loop(num(1), cond(num(1), block(again()), nil)), placed(s, rows[i])), want)
		}
		if len(rows[i]) < 5 {
			for _, c := range placeKinds {
				rows = append(rows, rows[i]+string(c))
			}
		}
	}
}

// TestCheckDepth: 64 deep is right and 65 is not, in each way of being deep, and in each place.
func TestCheckDepth(t *testing.T) {
	one := num(1)
	exprWays := map[string]func(api.Expr) api.Expr{
		"index": func(x api.Expr) api.Expr { return index("m", x) }, "has": func(x api.Expr) api.Expr { return has("m", x) }, "minus": func(x api.Expr) api.Expr { return unary("-", x) }, "not": func(x api.Expr) api.Expr { return unary("!", x) },
		"left": func(x api.Expr) api.Expr { return binary(x, "+", one) }, "right": func(x api.Expr) api.Expr { return binary(one, "&&", x) }, "both": func(x api.Expr) api.Expr { return binary(one, "<", unary("-", x)) },
	}
	for what, deeper := range exprWays {
		step := depthOfExprs([]api.Expr{deeper(one)}) - 1
		for _, begin := range []api.Expr{one, name("x"), length("m"), unary("-", one)} {
			x := begin
			for depthOfExprs([]api.Expr{x}) < 70 {
				for _, s := range []api.Stmt{show(x), show(one, x), show(x, one), set("x", x), put("m", x, one), put("m", one, x), del("m", x), cond(x, nil, nil), loop(x), loop(one, show(x)), cond(one, nil, block(show(), show(x)))} {
					want := api.OK
					if depthOf(block(s)) > 64 {
						want = api.ErrDeep
					}
					if e := lang.Check(prog(show(), s, show())); e != want {
						t.Errorf("P23.6: Check of %s, %d deep: %d, want %d", what, depthOf(block(s)), e, want)
					}
				}
				x = deeper(x)
			}
			if step < 1 {
				t.Fatal("the test's expression grows no deeper")
			}
		}
	}
}

// TestCheckDepthOfBlocks: the same with statements in one another.
func TestCheckDepthOfBlocks(t *testing.T) {
	for _, places := range []string{"i", "e", "w", "f", "ie", "ef", "wwi", "iewf"} {
		for _, begin := range []api.Stmt{show(), leave(), empty("m"), set("x", num(1)), show(unary("-", num(1)))} {
			s := loop(num(1), begin)
			for depthOf(block(s)) < 70 {
				want := api.OK
				if depthOf(block(s)) > 64 {
					want = api.ErrDeep
				}
				checks(t, prog(s), want)
				checks(t, prog(show(), s, show()), want)
				s = placed(s, places[:1])
				places = places[1:] + places[:1]
			}
		}
	}
	for deep := 60; deep < 70; deep++ {
		s, x := show(), num(1)
		for range deep - 1 {
			s = loop(num(1), s)
		}
		for range deep - 2 {
			x = unary("!", x)
		}
		want := api.OK
		if deep > 64 {
			want = api.ErrDeep
		}
		// (The innermost while has a number, which is as deep in it as the print.)
		checks(t, prog(s), want)
		checks(t, prog(show(x)), want)
		checks(t, prog(s, show(x)), want)
	}
}

// TestCheckOrder: of several the first counts: all mixes of the four, with two ways for each.
func TestCheckOrder(t *testing.T) {
	x := num(1)
	for range 70 {
		x = unary("-", x)
	}
	names := [][]string{{"m"}, {"m", "m"}, append(manyMaps(16), "m"), {"m", "for"}}
	use := []api.Stmt{show(), set("m", num(1)), show(num(-1)), {}, show(length("x"))}
	stray := []api.Stmt{show(), leave(), cond(num(1), nil, block(again()))}
	deep := []api.Stmt{show(), show(x), loop(x, leave())}
	for i, maps := range names {
		for j, u := range use {
			for k, l := range stray {
				for n, d := range deep {
					want := api.OK
					switch {
					case i > 0:
						want = api.ErrNames
					case j > 0:
						want = api.ErrUse
					case k > 0:
						want = api.ErrLoop
					case n > 0:
						want = api.ErrDeep
					}
					for _, list := range [][]api.Stmt{{u, l, d}, {d, l, u}, {l, u, d}, {cond(num(1), block(d), block(l)), u}, {cond(num(1), block(l, d, u), nil)}} {
						checks(t, api.Prog{Maps: maps, Stmts: list}, want)
					}
				}
			}
		}
	}
	// One statement with all of them.
	checks(t, prog(loop(x, set("m", x)), leave()), api.ErrUse)
	checks(t, prog(cond(x, block(leave()), nil)), api.ErrLoop)
	checks(t, prog(loop(x, leave())), api.ErrDeep)
}

// TestCheckDrawn: drawn programs with names that fit more often, held against the chapter's words written out in another way.
func TestCheckDrawn(t *testing.T) {
	d := draws(2311)
	var count [300]int
	for range 6000 {
		p := normal(d.prog())
		p.Maps = manyMaps(d.Intn(18))
		if d.Intn(10) == 0 {
			p.Maps = append(p.Maps, pick(d, append([]string{"m0", "in"}, someNames...)))
		}
		fit(p, d)
		if d.Intn(3) == 0 {
			p.Stmts = block(placed(cond(num(1), p.Stmts, nil), "iew"[d.Intn(3):]))
		}
		want := plainCheck(p)
		checks(t, p, want)
		count[want]++
	}
	for _, e := range []api.Errno{api.OK, api.ErrNames, api.ErrUse, api.ErrLoop} {
		if count[e] < 100 {
			t.Errorf("only %d of 6000 programs have the answer %d", count[e], e)
		}
	}
}

// fit: nearly each name of the program becomes one that is as it is used; where there are no maps, what uses one is left.
func fit(p api.Prog, d drawer) {
	right := func(n *string, what byte) {
		switch {
		case what == 0 || d.Intn(300) == 0:
		case what == 'v':
			*n = "v"
		case len(p.Maps) > 0:
			*n = pick(d, p.Maps)
		}
	}
	var inExprs func([]api.Expr)
	inExprs = func(list []api.Expr) {
		for i := range list {
			u, _ := usesOfExpr(list[i].Kind)
			right(&list[i].Name, u.name)
			inExprs(list[i].Args)
		}
	}
	var inStmts func([]api.Stmt)
	inStmts = func(list []api.Stmt) {
		for i := range list {
			s := &list[i]
			u, _ := usesOfStmt(s.Kind)
			right(&s.Name, u.name)
			if u.loop {
				right(&s.Key, 'v')
				right(&s.Val, 'v')
			}
			inExprs(s.Exprs)
			inStmts(s.Body)
			inStmts(s.Else)
		}
	}
	inStmts(p.Stmts)
}
