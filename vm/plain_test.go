package vm_test

import (
	"fmt"
	"math/big"
	"strings"

	"larder/api"
	"larder/code"
	"larder/store"
)

// The chapter's table once more, in another way: numbers of any size, which are brought into their range; maps and walks by the store's own calls; instructions by their names.

var (
	edge  = new(big.Int).Lsh(big.NewInt(1), 63)
	round = new(big.Int).Lsh(big.NewInt(1), 64)
)

// inRange: the number modulo 2^64, from -2^63 to 2^63-1.
func inRange(x *big.Int) *big.Int {
	x = new(big.Int).Add(x, edge)
	x.Mod(x, round)
	return x.Sub(x, edge)
}

// laid: a number's eight bytes.
func laid(x int64) string {
	return string(new(big.Int).Add(big.NewInt(x), edge).FillBytes(make([]byte, 8)))
}

// unlaid: the number of eight bytes.
func unlaid(s string) int64 {
	x := new(big.Int).SetBytes([]byte(s))
	return x.Sub(x, edge).Int64()
}

// shelf: a store's maps from numbers to numbers, numbered from 0 on.
type shelf struct {
	s     *store.Store
	seed  uint64
	draws []uint64
	drawn int
}

// newShelf: with so many maps.
func newShelf(env api.Env, maps int) (*shelf, api.Errno) {
	s, e := store.New(env.Limit, env.Over...)
	if e != api.OK {
		return nil, e
	}
	for i := range maps {
		h, e := s.Make(env.Seed, 0, 8, 8, 8, 8, 16)
		if e != api.OK {
			return nil, api.ErrMemory
		}
		if h != i+1 {
			panic(fmt.Sprint("map ", i, " has the handle ", h))
		}
	}
	return &shelf{s: s, seed: env.Seed, draws: env.Draws}, api.OK
}

func sure(e api.Errno) {
	if e != api.OK {
		panic(fmt.Sprint("the store refuses with ", e))
	}
}

func (f *shelf) get(m int, k int64) (int64, bool) {
	v, yes, e := f.s.Get(m+1, laid(k))
	sure(e)
	if !yes {
		return 0, false
	}
	return unlaid(v), true
}

func (f *shelf) put(m int, k, v int64) bool {
	_, e := f.s.Put(m+1, laid(k), laid(v))
	if e == api.ErrMemory {
		return false
	}
	sure(e)
	return true
}

func (f *shelf) drop(m int, k int64) {
	_, e := f.s.Delete(m+1, laid(k))
	sure(e)
}

func (f *shelf) empty(m int) { sure(f.s.Clear(m+1, f.seed)) }

func (f *shelf) count(m int) int64 {
	n, e := f.s.Len(m + 1)
	sure(e)
	return int64(n)
}

// draw: the next one.
func (f *shelf) draw() uint64 {
	f.drawn++
	if f.drawn > len(f.draws) {
		return 0
	}
	return f.draws[f.drawn-1]
}

// open: a walk's number.
func (f *shelf) open(m int) int {
	one := f.draw()
	two := f.draw()
	w, e := f.s.Open(m+1, one, two)
	sure(e)
	return w
}

func (f *shelf) next(w int) (k, v int64, yes bool) {
	p, yes, e := f.s.Next(w)
	sure(e)
	if !yes {
		return 0, 0, false
	}
	return unlaid(p.Key), unlaid(p.Elem), true
}

func (f *shelf) shut(w int) { sure(f.s.Release(w)) }

// The names of the instructions, from 1 on.
var names = strings.Fields("push load store get has len neg not add sub mul div rem eq ne lt le gt ge put del clear print jump zero open next close tick")

// plain: the machine once more.
type plain struct {
	*shelf
	vars  map[int]*big.Int
	stack []*big.Int
	walks []int
	left  api.Out
	fuel  int
	at    int
}

func plainRun(c api.Code, env api.Env) api.Out {
	if code.Verify(c) != api.OK {
		return api.Out{Err: api.ErrCode}
	}
	f, e := newShelf(env, c.Maps)
	if e != api.OK {
		return api.Out{Err: e}
	}
	p := &plain{shelf: f, vars: map[int]*big.Int{}, fuel: plainFuel(env.Fuel)}
	for p.at < len(c.Insts) && p.left.Err == api.OK {
		in := c.Insts[p.at]
		p.at++
		p.do(names[in.Op-1], in.A, in.N)
	}
	if p.left.Err == api.OK && (len(p.stack) > 0 || len(p.walks) > 0) {
		panic("a run comes to its end with something left")
	}
	return p.left
}

func plainFuel(fuel int) int {
	switch {
	case fuel < 0:
		return 0
	case fuel > 1048576:
		return 1048576
	}
	return fuel
}

func (p *plain) push(x *big.Int) { p.stack = append(p.stack, inRange(x)) }

// pop: the uppermost so many, the lowest of them first.
func (p *plain) pop(n int) []*big.Int {
	low := len(p.stack) - n
	list := p.stack[low:]
	p.stack = p.stack[:low:low]
	return list
}

func (p *plain) popOne() int64 { return p.pop(1)[0].Int64() }

func (p *plain) do(name string, a int, n int64) {
	switch name {
	case "push":
		p.push(big.NewInt(n))
	case "load":
		if p.vars[a] == nil {
			p.vars[a] = new(big.Int)
		}
		p.push(p.vars[a])
	case "store":
		p.vars[a] = p.pop(1)[0]
	case "neg":
		p.push(new(big.Int).Neg(p.pop(1)[0]))
	case "not":
		p.push(truth(p.pop(1)[0].Sign() == 0))
	case "print":
		p.left.Lines = append(p.left.Lines, strings.Trim(fmt.Sprint(p.pop(a)), "[]"))
	case "jump":
		p.at = a
	case "zero":
		if p.pop(1)[0].Sign() == 0 {
			p.at = a
		}
	case "tick":
		if p.left.Steps == p.fuel {
			p.left.Err = api.ErrFuel
			return
		}
		p.left.Steps++
	case "get", "has", "len", "put", "del", "clear", "open", "next", "close":
		p.doMap(name, a)
	default:
		xy := p.pop(2)
		p.work(name, xy[0], xy[1])
	}
}

// work: what is made of two numbers.
func (p *plain) work(name string, x, y *big.Int) {
	z := new(big.Int)
	less, more := x.Cmp(y) < 0, x.Cmp(y) > 0
	switch name {
	case "add":
		z.Add(x, y)
	case "sub":
		z.Sub(x, y)
	case "mul":
		z.Mul(x, y)
	case "div", "rem":
		if y.Sign() == 0 {
			p.left.Err = api.ErrZero
			return
		}
		rest := new(big.Int)
		z.QuoRem(x, y, rest)
		if name == "rem" {
			z = rest
		}
	default:
		z = truth(map[string]bool{"eq": !less && !more, "ne": less || more, "lt": less, "le": !more, "gt": more, "ge": !less}[name])
	}
	p.push(z)
}

func truth(yes bool) *big.Int {
	if yes {
		return big.NewInt(1)
	}
	return new(big.Int)
}

func (p *plain) doMap(name string, a int) {
	switch name {
	case "get":
		v, _ := p.get(a, p.popOne())
		p.push(big.NewInt(v))
	case "has":
		_, yes := p.get(a, p.popOne())
		p.push(truth(yes))
	case "len":
		p.push(big.NewInt(p.count(a)))
	case "put":
		kv := p.pop(2)
		if !p.put(a, kv[0].Int64(), kv[1].Int64()) {
			p.left.Err = api.ErrMemory
		}
	case "del":
		p.drop(a, p.popOne())
	case "clear":
		p.empty(a)
	case "open":
		p.walks = append(p.walks, p.open(a))
	case "next":
		k, v, yes := p.next(p.walks[len(p.walks)-1])
		if yes {
			p.push(big.NewInt(k))
			p.push(big.NewInt(v))
			return
		}
		p.at = a
		p.shutLast()
	case "close":
		p.shutLast()
	}
}

func (p *plain) shutLast() {
	last := len(p.walks) - 1
	p.shut(p.walks[last])
	p.walks = p.walks[:last]
}
