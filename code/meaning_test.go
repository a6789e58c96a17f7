package code_test

import (
	"errors"
	"fmt"
	"slices"
	"testing"

	"larder/api"
	"larder/code"
)

// What a program means, and what its code does, each on plain maps of its own kind: they print and leave the same. Which order a walk has isn't asked here, but that it is the same one for both.

// numberMap: a plain map from numbers to numbers. A walk over it has the keys in rising order that are there when it is opened.
type numberMap struct {
	vals, births map[int64]int64
	count        int64
}

func newNumberMap() *numberMap {
	return &numberMap{vals: map[int64]int64{}, births: map[int64]int64{}}
}

func (m *numberMap) put(k, v int64) {
	if _, old := m.vals[k]; !old {
		m.count++
		m.births[k] = m.count
	}
	m.vals[k] = v
}

func (m *numberMap) has(k int64) int64 {
	_, yes := m.vals[k]
	return truth(yes)
}

func truth(yes bool) int64 {
	if yes {
		return 1
	}
	return 0
}

// drop: the key is there no more.
func (m *numberMap) drop(k int64) {
	delete(m.vals, k)
	delete(m.births, k)
}

func (m *numberMap) empty() {
	clear(m.vals)
	clear(m.births)
}

// numberWalk: the keys that are still to be told, and the births of their lives.
type numberWalk struct {
	m      *numberMap
	keys   []int64
	births []int64
}

func (m *numberMap) open() *numberWalk {
	w := &numberWalk{m: m}
	for k := range m.vals {
		w.keys = append(w.keys, k)
	}
	slices.Sort(w.keys)
	for _, k := range w.keys {
		w.births = append(w.births, m.births[k])
	}
	return w
}

func (w *numberWalk) next() (k, v int64, yes bool) {
	for len(w.keys) > 0 {
		k, birth := w.keys[0], w.births[0]
		w.keys, w.births = w.keys[1:], w.births[1:]
		if w.m.births[k] == birth {
			return k, w.m.vals[k], true
		}
	}
	return 0, 0, false
}

// world: what a run has: its variables and maps, how many walks are open, what it has printed, how many steps it has taken.
type world struct {
	vars  []int64
	maps  []*numberMap
	walks int
	lines []string
	steps int
	fuel  int
}

func newWorld(vars, maps, fuel int) *world {
	w := &world{vars: make([]int64, vars), fuel: fuel}
	for range maps {
		w.maps = append(w.maps, newNumberMap())
	}
	return w
}

var (
	errBreak    = errors.New("break")
	errContinue = errors.New("continue")
	errFuel     = errors.New("no fuel")
	errZero     = errors.New("division by zero")
)

func (w *world) step() error {
	if w.steps == w.fuel {
		return errFuel
	}
	w.steps++
	return nil
}

func (w *world) show(list []int64) { w.lines = append(w.lines, fmt.Sprint(list)) }

func sum(op string, x, y int64) (int64, error) {
	switch op {
	case "+", "add":
		return x + y, nil
	case "-", "sub":
		return x - y, nil
	case "*", "mul":
		return x * y, nil
	case "==", "eq":
		return truth(x == y), nil
	case "!=", "ne":
		return truth(x != y), nil
	case "<", "lt":
		return truth(x < y), nil
	case "<=", "le":
		return truth(x <= y), nil
	case ">", "gt":
		return truth(x > y), nil
	case ">=", "ge":
		return truth(x >= y), nil
	}
	if y == 0 {
		return 0, errZero
	}
	if op == "/" || op == "div" {
		return x / y, nil
	}
	return x % y, nil
}

// teller: does what a program means.
type teller struct {
	*world
	numbers map[string]int // of the maps, and of the variables
}

func (r *teller) list(stmts []api.Stmt) error {
	for _, s := range stmts {
		if err := r.stmt(s); err != nil {
			return err
		}
	}
	return nil
}

func (r *teller) stmt(s api.Stmt) error {
	n := r.numbers[s.Name]
	if s.Kind == api.StWhile {
		return r.while(s)
	}
	if err := r.step(); err != nil {
		return err
	}
	switch s.Kind {
	case api.StClear:
		r.maps[n].empty()
		return nil
	case api.StRange:
		return r.each(s)
	case api.StBreak:
		return errBreak
	case api.StContinue:
		return errContinue
	}
	var x []int64
	for _, e := range s.Exprs {
		v, err := r.expr(e)
		if err != nil {
			return err
		}
		x = append(x, v)
	}
	switch s.Kind {
	case api.StSet:
		r.vars[n] = x[0]
	case api.StPut:
		r.maps[n].put(x[0], x[1])
	case api.StDelete:
		r.maps[n].drop(x[0])
	case api.StPrint:
		r.show(x)
	case api.StIf:
		if x[0] != 0 {
			return r.list(s.Body)
		}
		return r.list(s.Else)
	}
	return nil
}

func (r *teller) while(s api.Stmt) error {
	for {
		if err := r.step(); err != nil {
			return err
		}
		x, err := r.expr(s.Exprs[0])
		if err != nil || x == 0 {
			return err
		}
		if err := r.list(s.Body); err != nil && err != errContinue {
			if err == errBreak {
				return nil
			}
			return err
		}
	}
}

func (r *teller) each(s api.Stmt) error {
	walk := r.maps[r.numbers[s.Name]].open()
	r.walks++
	for {
		if err := r.step(); err != nil {
			return err // what is open stays so, as nobody asks
		}
		k, v, yes := walk.next()
		if !yes {
			r.walks--
			return nil
		}
		r.vars[r.numbers[s.Val]] = v
		r.vars[r.numbers[s.Key]] = k
		if err := r.list(s.Body); err != nil && err != errContinue {
			if err == errBreak {
				r.walks--
				return nil
			}
			return err
		}
	}
}

func (r *teller) expr(e api.Expr) (int64, error) {
	n := r.numbers[e.Name]
	switch e.Kind {
	case api.ExNum:
		return e.Num, nil
	case api.ExName:
		return r.vars[n], nil
	case api.ExLen:
		return int64(len(r.maps[n].vals)), nil
	}
	x, err := r.expr(e.Args[0])
	if err != nil {
		return 0, err
	}
	switch {
	case e.Kind == api.ExIndex:
		return r.maps[n].vals[x], nil
	case e.Kind == api.ExHas:
		return r.maps[n].has(x), nil
	case e.Kind == api.ExUnary && e.Op == "-":
		return -x, nil
	case e.Kind == api.ExUnary:
		return truth(x == 0), nil
	case e.Op == "&&" && x == 0, e.Op == "||" && x != 0:
		return truth(x != 0), nil
	}
	y, err := r.expr(e.Args[1])
	if err != nil {
		return 0, err
	}
	if e.Op == "&&" || e.Op == "||" {
		return truth(y != 0), nil
	}
	return sum(e.Op, x, y)
}

// doer: does what code says, an instruction after the other, by what package api says of each.
type doer struct {
	*world
	stack []int64
	open  []*numberWalk
}

func (r *doer) pop() int64 {
	x := r.stack[len(r.stack)-1]
	r.stack = r.stack[:len(r.stack)-1]
	return x
}

func (r *doer) push(x int64) { r.stack = append(r.stack, x) }

func (r *doer) shut() {
	r.open = r.open[:len(r.open)-1]
	r.walks--
}

// inst: does one of them; the place at which it goes on.
func (r *doer) inst(at int, in api.Inst) (int, error) {
	var err error
	switch name := rows[in.Op-1].name; name {
	case "push":
		r.push(in.N)
	case "load":
		r.push(r.vars[in.A])
	case "store":
		r.vars[in.A] = r.pop()
	case "get":
		r.push(r.maps[in.A].vals[r.pop()])
	case "has":
		r.push(r.maps[in.A].has(r.pop()))
	case "len":
		r.push(int64(len(r.maps[in.A].vals)))
	case "neg":
		r.push(-r.pop())
	case "not":
		r.push(truth(r.pop() == 0))
	case "put":
		v := r.pop()
		r.maps[in.A].put(r.pop(), v)
	case "del":
		r.maps[in.A].drop(r.pop())
	case "clear":
		r.maps[in.A].empty()
	case "print":
		r.show(r.stack[len(r.stack)-in.A:])
		r.stack = r.stack[:len(r.stack)-in.A]
	case "jump":
		return in.A, nil
	case "zero":
		if r.pop() == 0 {
			return in.A, nil
		}
	case "open":
		r.open = append(r.open, r.maps[in.A].open())
		r.walks++
	case "next":
		k, v, yes := r.open[len(r.open)-1].next()
		if !yes {
			r.shut()
			return in.A, nil
		}
		r.push(k)
		r.push(v)
	case "close":
		r.shut()
	case "tick":
		err = r.step()
	default:
		var x int64
		y := r.pop()
		x, err = sum(name, r.pop(), y)
		r.push(x)
	}
	return at + 1, err
}

func (r *doer) run(insts []api.Inst) error {
	for at := 0; at < len(insts); {
		next, err := r.inst(at, insts[at])
		if err != nil {
			return err
		}
		at = next
	}
	return nil
}

// state: all that a run leaves, but the walks that were open when it was ended amid it.
func (w *world) state(err error) string {
	text := fmt.Sprint(err, " steps ", w.steps, " vars ", w.vars, " lines ", w.lines)
	if err == nil {
		text += fmt.Sprint(" walks ", w.walks)
	}
	for _, m := range w.maps {
		text += fmt.Sprint(" map ", m.vals, m.count)
	}
	return text
}

// runsAlike: the code of the text's program does what the program means; how it ends.
func runsAlike(t *testing.T, text string, fuel int) error {
	t.Helper()
	p := parsed(t, text)
	c, e := code.Compile(p)
	if e != api.OK || code.Verify(c) != api.OK {
		t.Fatalf("P24.1, P24.4: Compile of %q: error %d", short(text), e)
	}
	numbers, _ := numbersOf(p)
	plain := &teller{newWorld(c.Vars, c.Maps, fuel), numbers}
	want := plain.list(p.Stmts)
	done := &doer{world: newWorld(c.Vars, c.Maps, fuel)}
	err := done.run(c.Insts)
	if got, means := done.state(err), plain.state(want); got != means {
		t.Fatalf("U11: the code of %q leaves %s, want %s", short(text), short(got), short(means))
	}
	if err == nil && (len(done.stack) > 0 || len(done.open) > 0) {
		t.Fatalf("P24.5: at the end of %q %d numbers and %d walks are left", short(text), len(done.stack), len(done.open))
	}
	return err
}

// TestMeaning: U11, as far as it speaks of this layer: P24.2.
func TestMeaning(t *testing.T) {
	for _, text := range []string{
		"", "print;", "x = 1; y = x + x; print x, y, z;", "print 1 && 2, 1 && 0, 0 && 1, 0 || 0, 0 || 7, 7 || 0, 1 || 1;",
		"print 0 && 1 / 0, 1 || 1 / 0; print 1;", "print 1 / 0;", "x = 5; print x % 0; print 2;", "print -9223372036854775807 - 1, 9223372036854775807 + 1, -(-9223372036854775807 - 1) / -1;",
		"while i < 10 { i = i + 1; if i == 3 { continue; } if i == 7 { break; } print i; } print i;",
		"map m; while i < 20 { m[i] = i * i; i = i + 1; } for k, v in m { if k % 2 { delete m[k]; delete m[k + 1]; } else { m[100 + k] = 1; } s = s + v; } print s, len m;",
		"map m; m[1] = 2; m[2] = 3; for k, v in m { for k, v in m { print k, v; break; } print k, v; }",
		"map m; m[1] = 2; m[2] = 3; for a, b in m { for c, d in m { if c == 2 { break; } print a, b, c, d; while 1 { break; } } continue; }",
		"map m; m[1] = 2; m[3] = 4; for x, x in m { print x; }", "map m; m[m[1]] = m[0] + 1; m[m[0]] = m[0] + len m; print m[0], m[1], len m, has m[1], has m[2];",
		"map m; m[1] = 1; m[2] = 2; for k, v in m { clear m; m[1] = 5; m[2] = 6; print k, v; }", "while 1 { }", "while 1 { x = x + 1; print x; }",
	} {
		for fuel := range 120 {
			runsAlike(t, text, fuel)
		}
		runsAlike(t, text, 5000)
	}
	d := draws(246)
	ends := map[error]int{}
	for range rounds / 4 {
		text := d.program()
		ends[runsAlike(t, text, 200)]++
		runsAlike(t, text, d.Intn(30))
	}
	for _, err := range []error{nil, errFuel, errZero} {
		if ends[err] < rounds/100 {
			t.Errorf("the test draws too little: %d runs end with %v", ends[err], err)
		}
	}
}
