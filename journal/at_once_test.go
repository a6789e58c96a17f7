package journal_test

import (
	"sync"
	"testing"

	"larder/api"
	"larder/journal"
)

// TestAtOnce: W2: several goroutines make journals of one list, and go on each with its own; they look at one journal meanwhile.
func TestAtOnce(t *testing.T) {
	j := walked(t, 20, 7)
	log := j.Log()
	want := string(log)
	var all sync.WaitGroup
	for i := range 8 {
		all.Go(func() {
			for range 4 {
				k, _, e := journal.Recover(log)
				if k == nil || e != api.OK || string(k.Log()) != want || string(j.Log()) != want {
					t.Errorf("W2: error %d, or another log", e)
					return
				}
				if n, e := j.Store().Len(1); n == 0 || e != api.OK {
					t.Errorf("W2: Len: %d, error %d", n, e)
				}
				d := draws(int64(i))
				for range 40 {
					k.Do(d.command(k.Store()))
				}
				k.Mark()
			}
		})
	}
	all.Wait()
	if string(log) != want || string(j.Log()) != want {
		t.Error("W2: the list or the journal is not what it was")
	}
}
