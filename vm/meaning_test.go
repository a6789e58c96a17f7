package vm_test

import (
	"errors"
	"fmt"
	"regexp"
	"strings"
	"testing"

	"larder/api"
	"larder/code"
	"larder/lang"
	"larder/vm"
)

// What a program means, by chapter 29's words: statement by statement, without any code.

// things: what a program's maps can do. A map has a number; so has a walk.
type things interface {
	get(m int, k int64) (int64, bool)
	put(m int, k, v int64) bool
	drop(m int, k int64)
	empty(m int)
	count(m int) int64
	open(m int) int
	next(w int) (k, v int64, yes bool)
	shut(w int)
}

// numberMaps: plain maps from numbers to numbers, over which nobody walks.
type numberMaps []map[int64]int64

func newNumberMaps(n int) numberMaps {
	var list numberMaps
	for range n {
		list = append(list, map[int64]int64{})
	}
	return list
}

func (l numberMaps) get(m int, k int64) (int64, bool) {
	v, yes := l[m][k]
	return v, yes
}

func (l numberMaps) put(m int, k, v int64) bool {
	l[m][k] = v
	return true
}

func (l numberMaps) drop(m int, k int64)           { delete(l[m], k) }
func (l numberMaps) empty(m int)                   { clear(l[m]) }
func (l numberMaps) count(m int) int64             { return int64(len(l[m])) }
func (l numberMaps) open(int) int                  { panic("nobody walks over plain maps") }
func (l numberMaps) next(int) (k, v int64, _ bool) { panic("nobody walks over plain maps") }
func (l numberMaps) shut(int)                      { panic("nobody walks over plain maps") }

// teller: does what a program means.
type teller struct {
	things
	maps map[string]int
	vars map[string]int64
	left api.Out
	fuel int
}

var (
	errBreak    = errors.New("break")
	errContinue = errors.New("continue")
)

// ended: what ends a run.
type ended struct{ with api.Errno }

func (e ended) Error() string { return fmt.Sprint("error ", int(e.with)) }

// meant: what a program that lang.Check lets in leaves on these maps.
func meant(p api.Prog, env api.Env, on things) api.Out {
	r := &teller{things: on, maps: map[string]int{}, vars: map[string]int64{}, fuel: plainFuel(env.Fuel)}
	for i, name := range p.Maps {
		r.maps[name] = i
	}
	var end ended
	if errors.As(r.list(p.Stmts), &end) {
		r.left.Err = end.with
	}
	return r.left
}

// meantInAStore: what it leaves on a store's maps, as the environment says.
func meantInAStore(p api.Prog, env api.Env) api.Out {
	f, e := newShelf(env, len(p.Maps))
	if e != api.OK {
		return api.Out{Err: e}
	}
	return meant(p, env, f)
}

func (r *teller) step() error {
	if r.left.Steps == r.fuel {
		return ended{api.ErrFuel}
	}
	r.left.Steps++
	return nil
}

func (r *teller) list(stmts []api.Stmt) error {
	for _, s := range stmts {
		if err := r.stmt(s); err != nil {
			return err
		}
	}
	return nil
}

func (r *teller) stmt(s api.Stmt) error {
	if s.Kind == api.StWhile {
		return r.turns(func() (bool, error) {
			x, err := r.expr(s.Exprs[0])
			return x != 0, err
		}, s.Body)
	}
	if err := r.step(); err != nil {
		return err
	}
	m := r.maps[s.Name]
	switch s.Kind {
	case api.StClear:
		r.empty(m)
		return nil
	case api.StRange:
		return r.each(s, r.open(m))
	case api.StBreak:
		return errBreak
	case api.StContinue:
		return errContinue
	}
	var x []int64
	for _, e := range s.Exprs {
		v, err := r.expr(e)
		if err != nil {
			return err
		}
		x = append(x, v)
	}
	switch s.Kind {
	case api.StSet:
		r.vars[s.Name] = x[0]
	case api.StPut:
		if !r.put(m, x[0], x[1]) {
			return ended{api.ErrMemory}
		}
	case api.StDelete:
		r.drop(m, x[0])
	case api.StPrint:
		r.left.Lines = append(r.left.Lines, strings.Trim(fmt.Sprint(x), "[]"))
	case api.StIf:
		if x[0] != 0 {
			return r.list(s.Body)
		}
		return r.list(s.Else)
	}
	return nil
}

// turns: a loop's; each takes a step, and then asks whether there is one.
func (r *teller) turns(further func() (bool, error), body []api.Stmt) error {
	for {
		if err := r.step(); err != nil {
			return err
		}
		yes, err := further()
		if err != nil || !yes {
			return err
		}
		switch err := r.list(body); err {
		case nil, errContinue:
		case errBreak:
			return nil
		default:
			return err
		}
	}
}

func (r *teller) each(s api.Stmt, walk int) error {
	defer r.shut(walk)
	return r.turns(func() (bool, error) {
		k, v, yes := r.next(walk)
		if yes {
			r.vars[s.Val] = v
			r.vars[s.Key] = k
		}
		return yes, nil
	}, s.Body)
}

func number(so bool) int64 {
	if so {
		return 1
	}
	return 0
}

func (r *teller) expr(e api.Expr) (int64, error) {
	switch e.Kind {
	case api.ExNum:
		return e.Num, nil
	case api.ExName:
		return r.vars[e.Name], nil
	case api.ExLen:
		return r.count(r.maps[e.Name]), nil
	}
	x, err := r.expr(e.Args[0])
	if err != nil {
		return 0, err
	}
	switch {
	case e.Kind == api.ExIndex:
		v, _ := r.get(r.maps[e.Name], x)
		return v, nil
	case e.Kind == api.ExHas:
		_, yes := r.get(r.maps[e.Name], x)
		return number(yes), nil
	case e.Kind == api.ExUnary && e.Op == "-":
		return -x, nil
	case e.Kind == api.ExUnary:
		return number(x == 0), nil
	case e.Op == "&&" && x == 0, e.Op == "||" && x != 0:
		return number(x != 0), nil
	}
	y, err := r.expr(e.Args[1])
	if err != nil {
		return 0, err
	}
	return both(e.Op, x, y)
}

func both(op string, x, y int64) (int64, error) {
	switch op {
	case "&&", "||":
		return number(y != 0), nil
	case "+":
		return x + y, nil
	case "-":
		return x - y, nil
	case "*":
		return x * y, nil
	case "==":
		return number(x == y), nil
	case "!=":
		return number(x != y), nil
	case "<":
		return number(x < y), nil
	case "<=":
		return number(x <= y), nil
	case ">":
		return number(x > y), nil
	case ">=":
		return number(x >= y), nil
	}
	switch {
	case y == 0:
		return 0, ended{api.ErrZero}
	case op == "/":
		return x / y, nil
	}
	return x % y, nil
}

// asMeant: the code of the text's program leaves what the program means; that is answered.
func asMeant(t *testing.T, text string, env api.Env) api.Out {
	t.Helper()
	p := parsed(text)
	c, e := code.Compile(p)
	if e != api.OK {
		t.Fatalf("P24.1: Compile of %q: error %d", short(text), e)
	}
	got, want := vm.Run(c, env), meantInAStore(p, env)
	if !same(got, want) {
		t.Fatalf("U11: %q, compiled and run in %s, leaves %s, want %s", short(text), toldEnv(env), toldOut(got), toldOut(want))
	}
	return got
}

// TestMeaning: U11, P25.2: programs of many kinds with every fuel up to what they take, and under many limits.
func TestMeaning(t *testing.T) {
	for _, text := range []string{
		"", "print;", "x = 1; y = x + x; print x, y, z;", "print 1 && 2, 1 && 0, 0 && 1, 0 || 0, 0 || 7, 7 || 0, 1 || 1;",
		"print 0 && 1 / 0, 1 || 1 / 0; print 1;", "print 7, 1 / 0, 8;", "x = 5; print x % 0; print 2;", "print -9223372036854775807 - 1, 9223372036854775807 + 1, -(-9223372036854775807 - 1) / -1;",
		"while i < 10 { i = i + 1; if i == 3 { continue; } if i == 7 { break; } print i; } print i;",
		"map m; while i < 20 { m[i] = i * i; i = i + 1; } for k, v in m { if k % 2 { delete m[k]; delete m[k + 1]; } else { m[100 + k] = 1; } s = s + v; print k; } print s, len m;",
		"map m; m[1] = 2; m[2] = 3; for k, v in m { for k, v in m { print k, v; break; } print k, v; }",
		"map m; m[1] = 2; m[2] = 3; for a, b in m { for c, d in m { if c == 2 { break; } print a, b, c, d; while 1 { break; } } continue; }",
		"map m; m[1] = 2; m[3] = 4; for x, x in m { print x; }", "map m; m[m[1]] = m[0] + 1; m[m[0]] = m[0] + len m; print m[0], m[1], len m, has m[1], has m[2];",
		"map m; m[1] = 1; m[2] = 2; for k, v in m { clear m; m[1] = 5; m[2] = 6; print k, v; }", "while 1 { }", "while 1 { x = x + 1; print x; }",
		"map m; map n; while i < 30 { m[i] = i; n[-i] = i; i = i + 1; } for k, v in m { for a, b in n { if a + k == 0 { delete n[a]; m[k + 1000] = b; break; } } } print len m, len n;",
		"map m; while 1 { i = i + 1; m[i] = i; for k, v in m { if k == i { print k; break; } } }",
	} {
		env := fuelled(3000)
		steps := asMeant(t, text, env).Steps
		for fuel := -1; fuel < min(steps+2, 150); fuel++ {
			asMeant(t, text, fuelled(fuel))
		}
		for limit := 0; limit < 8000; limit += 100 {
			env.Limit = limit
			asMeant(t, text, env)
		}
	}
}

// TestDrawnPrograms: U11, P25.2: drawn programs in drawn environments.
func TestDrawnPrograms(t *testing.T) {
	d := draws(256)
	ends := map[api.Errno]int{}
	lines := 0
	for range rounds {
		text := d.program()
		env := d.env()
		if d.Intn(2) == 0 {
			env.Fuel, env.Limit = 300, pick(d, 65536, 1000, 600)
		}
		o := asMeant(t, text, env)
		ends[o.Err]++
		lines += len(o.Lines)
	}
	for _, e := range []api.Errno{api.OK, api.ErrFuel, api.ErrZero, api.ErrMemory} {
		if ends[e] < rounds/50 {
			t.Errorf("the test draws too little: %d runs end with %d", ends[e], e)
		}
	}
	if lines < rounds*2 {
		t.Errorf("the test draws too little: %d lines", lines)
	}
}

// TestFormatRunsAlike: U11: a program whose text is written anew runs alike.
func TestFormatRunsAlike(t *testing.T) {
	d := draws(257)
	blanks := regexp.MustCompile(`[ \n]+`)
	for range rounds / 4 {
		text, env := d.program(), d.env()
		again := lang.Print(parsed(text))
		if one, two := asMeant(t, text, env), asMeant(t, blanks.ReplaceAllString(again, "\n"), env); !same(one, two) {
			t.Fatalf("U11: %q leaves %s, written anew it leaves %s", short(text), toldOut(one), toldOut(two))
		}
	}
}
