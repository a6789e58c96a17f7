package journal_test

import (
	"fmt"
	"testing"

	"larder/api"
	"larder/journal"
)

// TestLogIsNew: P20.4, W3: each Log is new memory, its spare room too: what is written over it is seen in no other and not in the journal; what is done later is not seen in it.
func TestLogIsNew(t *testing.T) {
	made := done(t, 1<<16, puts(20)...)
	for _, c := range []struct {
		what    string
		j       *journal.Journal
		records int
	}{{"Begin", begin(t, 1<<16), 0}, {"Do", made, 21}, {"Recover", recovered(t, "puts", string(made.Log()), 21), 21}} {
		for n := range 30 {
			log := string(c.j.Log())
			one, two := c.j.Log(), c.j.Log()
			scribble(one)
			if string(two) != log {
				t.Fatalf("P20.4: %s: two answers of Log share their memory", c.what)
			}
			wantLog(t, "P20.4: "+c.what+": an answer of Log is written over", c.j, log)
			if n%10 == 9 {
				marked(t, c.what, c.j)
				c.records = 0
			} else {
				c.j.Do(api.Cmd{Op: api.OpPut, H: 1, Key: key(1, n), Elem: "x"})
				c.records++
			}
			if string(two) != log {
				t.Fatalf("P20.4: %s: what is done is seen in an earlier answer of Log", c.what)
			}
			scribble(two)
			recovered(t, c.what, string(c.j.Log()), c.records)
		}
	}
}

// TestStoreIsTheSame: P20.4: the same store at every call, whatever is done meanwhile.
func TestStoreIsTheSame(t *testing.T) {
	for what, j := range map[string]*journal.Journal{"Begin": begin(t, 4096), "Recover": recovered(t, "nothing", string(begin(t, 4096).Log()), 0)} {
		s, d := j.Store(), draws(5)
		if s == nil {
			t.Fatalf("P20.4: %s: no store", what)
		}
		for n := range 100 {
			j.Do(d.command(s))
			if n%20 == 0 {
				j.Mark()
				j.Do(api.Cmd{Op: api.OpRelease, Hs: walksOf(s)})
				marked(t, what, j)
			}
			j.Log()
			if j.Store() != s {
				t.Fatalf("P20.4: %s: another store, behind %d commands", what, n)
			}
		}
	}
}

// TestLooks: P20.4: looking at the store and the log changes neither.
func TestLooks(t *testing.T) {
	j := done(t, 1<<16, puts(30)...)
	j.Do(api.Cmd{Op: api.OpOpen, H: 1})
	log, was := string(j.Log()), state(j.Store())
	for n := range 5 {
		j.Log()
		j.Store().Get(1, key(1, n))
		j.Store().Len(1)
		j.Store().Probes(1, key(1, n))
		wantLog(t, fmt.Sprint("P20.4: look ", n), j, log)
		if state(j.Store()) != was {
			t.Fatal("P20.4: looking has changed the store")
		}
	}
}
