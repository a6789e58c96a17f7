package code_test

import (
	"sync"
	"testing"

	"larder/api"
	"larder/code"
)

// TestAtOnce: P24.9: several goroutines make all calls at once, with the same arguments: each gets what it would get alone, and nothing that is handed in is written.
func TestAtOnce(t *testing.T) {
	type row struct {
		p    api.Prog
		c    api.Code
		text string
		e    api.Errno
	}
	d := draws(2411)
	var list []row
	for range 60 {
		p := roomyProg(parsed(t, d.program()))
		c, _ := code.Compile(p)
		c.Insts = roomy(c.Insts, spareInst)
		if d.Intn(2) == 0 {
			c = d.changed(c)
		}
		list = append(list, row{p, c, code.Text(c), code.Verify(c)})
	}
	var all sync.WaitGroup
	for i := range 8 {
		all.Go(func() {
			for n := range list {
				r := list[(n+i/2*7)%len(list)]
				c, e := code.Compile(r.p)
				read, line, f := code.Assemble(r.text)
				if e != api.OK || code.Verify(c) != api.OK || !same(read, r.c) || line != 0 || f != api.OK || code.Text(r.c) != r.text || code.Verify(r.c) != r.e {
					t.Errorf("P24.9: at once with others the answers are other ones: %q", short(r.text))
				}
			}
		})
	}
	all.Wait()
}
