package lang_test

import (
	"reflect"
	"sync"
	"testing"

	"larder/api"
	"larder/lang"
)

// TestAtOnce: P23.7: several goroutines make all calls at once, with the same arguments: each gets what it would get alone, and nothing that is handed in is written.
func TestAtOnce(t *testing.T) {
	type row struct {
		text, form string
		p          api.Prog
		check      api.Errno
	}
	d := draws(2315)
	var list []row
	for range 60 {
		p := roomy(d.prog())
		list = append(list, row{d.text(p), lang.Print(p), p, lang.Check(p)})
	}
	var all sync.WaitGroup
	for i := range 8 {
		all.Go(func() {
			for n := range list {
				r := list[(n+i/2*7)%len(list)]
				p, _, _ := lang.Parse(r.text)
				q, _, _ := lang.Parse(r.form)
				if !reflect.DeepEqual(p, q) || lang.Print(r.p) != r.form || lang.Check(r.p) != r.check {
					t.Errorf("P23.7: at once with others the answers are other ones: %q", short(r.text))
				}
			}
		})
	}
	all.Wait()
}
