package code

import "larder/api"

// loop: one that is being compiled.
type loop struct {
	top    int   // where its next turn begins
	isWalk bool  // a range, whose walk is closed where it is left
	exits  []int // the jumps out of it, which lead behind it
}

// compiler: the instructions so far. What it compiles, lang.Check has let in.
type compiler struct {
	maps, vars map[string]int // their numbers
	insts      []api.Inst
	loops      []loop // those in which it stands, the innermost last
}

func newCompiler(maps []string) *compiler {
	c := &compiler{maps: map[string]int{}, vars: map[string]int{}}
	for i, name := range maps {
		c.maps[name] = i
	}
	return c
}

// variable: its number; that of a new one is the next.
func (c *compiler) variable(name string) int {
	n, known := c.vars[name]
	if !known {
		n = len(c.vars)
		c.vars[name] = n
	}
	return n
}

// here: the place at which the next instruction will stand.
func (c *compiler) here() int { return len(c.insts) }

// add: an instruction more; its place.
func (c *compiler) add(op, a int) int {
	c.insts = append(c.insts, api.Inst{Op: op, A: a})
	return c.here() - 1
}

func (c *compiler) push(n int64) {
	c.insts = append(c.insts, api.Inst{Op: api.InPush, N: n})
}

// ahead: an instruction that goes on at a place that is not known yet; its own place, for lead.
func (c *compiler) ahead(op int) int { return c.add(op, 0) }

// lead: these jumps lead here.
func (c *compiler) lead(jumps ...int) {
	for _, at := range jumps {
		c.insts[at].A = c.here()
	}
}

func (c *compiler) stmts(list []api.Stmt) {
	for i := range list {
		c.stmt(&list[i])
	}
}

func (c *compiler) stmt(s *api.Stmt) {
	begin := c.add(api.InTick, 0)
	switch s.Kind {
	case api.StSet:
		v := c.variable(s.Name) // its Name stands ahead of its expression
		c.exprs(s.Exprs)
		c.add(api.InStore, v)
	case api.StPut:
		c.exprs(s.Exprs)
		c.add(api.InPut, c.maps[s.Name])
	case api.StDelete:
		c.exprs(s.Exprs)
		c.add(api.InDel, c.maps[s.Name])
	case api.StClear:
		c.add(api.InClear, c.maps[s.Name])
	case api.StPrint:
		c.exprs(s.Exprs)
		c.add(api.InPrint, len(s.Exprs))
	case api.StIf:
		c.ifStmt(s)
	case api.StWhile:
		c.exprs(s.Exprs)
		c.turns(loop{top: begin}, c.ahead(api.InZero), s.Body)
	case api.StRange:
		c.rangeStmt(s)
	case api.StBreak:
		c.leave()
	case api.StContinue:
		c.add(api.InJump, c.innermost().top)
	}
}

// ifStmt: from its condition on.
func (c *compiler) ifStmt(s *api.Stmt) {
	c.exprs(s.Exprs)
	no := c.ahead(api.InZero)
	c.stmts(s.Body)
	if len(s.Else) == 0 {
		c.lead(no)
		return
	}
	end := c.ahead(api.InJump)
	c.lead(no)
	c.stmts(s.Else)
	c.lead(end)
}

// rangeStmt: from the opening of its walk on.
func (c *compiler) rangeStmt(s *api.Stmt) {
	key, val := c.variable(s.Key), c.variable(s.Val)
	c.add(api.InOpen, c.maps[s.Name])
	top := c.add(api.InTick, 0)
	done := c.ahead(api.InNext)
	c.add(api.InStore, val) // the value lies uppermost
	c.add(api.InStore, key)
	c.turns(loop{top: top, isWalk: true}, done, s.Body)
}

// turns: a loop's body, and what leads back and out; done is the jump that ends the loop.
func (c *compiler) turns(l loop, done int, body []api.Stmt) {
	c.loops = append(c.loops, l)
	c.stmts(body)
	c.add(api.InJump, l.top)
	c.lead(done)
	c.lead(c.innermost().exits...)
	c.loops = c.loops[:len(c.loops)-1]
}

func (c *compiler) innermost() *loop { return &c.loops[len(c.loops)-1] }

// leave: a break, from behind its tick on.
func (c *compiler) leave() {
	l := c.innermost()
	if l.isWalk {
		c.add(api.InClose, 0)
	}
	l.exits = append(l.exits, c.ahead(api.InJump))
}

func (c *compiler) exprs(list []api.Expr) {
	for i := range list {
		c.expr(&list[i])
	}
}

func (c *compiler) expr(x *api.Expr) {
	switch x.Kind {
	case api.ExNum:
		c.push(x.Num)
	case api.ExName:
		c.add(api.InLoad, c.variable(x.Name))
	case api.ExIndex:
		c.exprs(x.Args)
		c.add(api.InGet, c.maps[x.Name])
	case api.ExHas:
		c.exprs(x.Args)
		c.add(api.InHas, c.maps[x.Name])
	case api.ExLen:
		c.add(api.InLen, c.maps[x.Name])
	case api.ExUnary:
		c.exprs(x.Args)
		c.add(unaryOp(x.Op), 0)
	case api.ExBinary:
		c.binary(x)
	}
}

func (c *compiler) binary(x *api.Expr) {
	switch x.Op {
	case "&&":
		c.expr(&x.Args[0])
		no := c.ahead(api.InZero)
		c.expr(&x.Args[1])
		c.truth(no, c.ahead(api.InZero))
	case "||":
		c.expr(&x.Args[0])
		first := c.ahead(api.InZero)
		yes := c.ahead(api.InJump)
		c.lead(first)
		c.expr(&x.Args[1])
		no := c.ahead(api.InZero)
		c.lead(yes)
		c.truth(no)
	default:
		c.exprs(x.Args)
		c.add(binaryOp(x.Op), 0)
	}
}

// truth: 1; but 0, where it is come to by one of these jumps.
func (c *compiler) truth(no ...int) {
	c.push(1)
	end := c.ahead(api.InJump)
	c.lead(no...)
	c.push(0)
	c.lead(end)
}

func unaryOp(sign string) int {
	if sign == "-" {
		return api.InNeg
	}
	return api.InNot
}

// operation: a binary operator that always works out both operands, and its instruction.
type operation struct {
	text string
	op   int
}

var operations = [...]operation{
	{"+", api.InAdd}, {"-", api.InSub}, {"*", api.InMul}, {"/", api.InDiv}, {"%", api.InRem},
	{"==", api.InEq}, {"!=", api.InNe}, {"<", api.InLt}, {"<=", api.InLe}, {">", api.InGt}, {">=", api.InGe},
}

func binaryOp(text string) int {
	for _, o := range operations {
		if o.text == text {
			return o.op
		}
	}
	return 0
}
