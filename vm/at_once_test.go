package vm_test

import (
	"sync"
	"testing"

	"larder/api"
	"larder/vm"
)

// TestAtOnce: P25.7: several goroutines run the same code in the same environments at once: each run leaves what it would leave alone, and nothing that is handed in is written.
func TestAtOnce(t *testing.T) {
	type row struct {
		c    api.Code
		env  api.Env
		want api.Out
	}
	d := draws(2512)
	var list []row
	for range 80 {
		c, env := d.roomyCase()
		list = append(list, row{c, env, vm.Run(c, env)})
	}
	var all sync.WaitGroup
	for i := range 8 {
		all.Go(func() {
			for n := range list {
				r := list[(n+i/2*7)%len(list)]
				if got := vm.Run(r.c, r.env); !same(got, r.want) {
					t.Errorf("P25.7: at once with others %s leaves %s, want %s", told(r.c), toldOut(got), toldOut(r.want))
				}
			}
		})
	}
	all.Wait()
}
