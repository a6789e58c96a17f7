package journal_test

import (
	"fmt"
	"testing"

	"larder/api"
	"larder/image"
	"larder/journal"
)

// puts: a map with so many keys behind handle 1.
func puts(keys int) []api.Cmd {
	l := []api.Cmd{{Op: api.OpMake, U: 3, Fields: plain}}
	for n := range keys {
		l = append(l, api.Cmd{Op: api.OpPut, H: 1, Key: key(1, n), Elem: key(1, 2*n)})
	}
	return l
}

// marked: Mark is taken: the log is a head of kind 1 with the store's image, and no record; the store is the same, and as it was.
func marked(t testing.TB, what string, j *journal.Journal) {
	t.Helper()
	s, was := j.Store(), state(j.Store())
	if e := j.Mark(); e != api.OK {
		t.Fatalf("P20.3: %s: error %d", what, e)
	}
	b, e := image.Save(s)
	if e != api.OK {
		t.Fatalf("%s: Save: error %d", what, e)
	}
	want := "\x6C\x61\x72\x64\x65\x72\x32\x0A" + "\x01\x00\x00\x00\x00\x00\x00\x00" + words(uint64(len(b))) + string(b)
	want += words(plainMix(20, want))
	wantLog(t, "P20.3: "+what, j, want)
	if j.Store() != s || state(s) != was {
		t.Fatalf("P20.3: %s: the store is not as it was", what)
	}
	k := recovered(t, what, want, 0)
	if state(k.Store()) != was {
		t.Fatalf("P20.6: %s: the store that is made anew is another", what)
	}
}

// walks: Mark is refused by ErrWalks; the log and the store are as they were.
func walks(t testing.TB, what string, j *journal.Journal) {
	t.Helper()
	s, was, log := j.Store(), state(j.Store()), string(j.Log())
	if e := j.Mark(); e != api.ErrWalks {
		t.Fatalf("P20.3: %s: error %d, want ErrWalks", what, e)
	}
	wantLog(t, "P20.3: "+what, j, log)
	if j.Store() != s || state(s) != was {
		t.Fatalf("P20.3: %s: the store is not as it was", what)
	}
}

// TestMark: P20.3: behind nothing, behind records, twice, and behind records that follow a mark; with overrides, too.
func TestMark(t *testing.T) {
	for _, c := range begins {
		j := begin(t, c.limit, c.over...)
		marked(t, c.what, j)
		marked(t, c.what+", again", j)
		for n := range 40 {
			for _, cmd := range puts(n) {
				j.Do(cmd)
			}
			marked(t, fmt.Sprint(c.what, ", ", n, " keys"), j)
		}
		j.Do(api.Cmd{Op: api.OpRelease, Hs: j.Store().Handles()})
		marked(t, c.what+", nothing is live", j)
	}
}

// TestMarkWalks: P20.3: a walk that is not released, be it new, on its way or done, over whatever map; the store goes on, and the log with it.
func TestMarkWalks(t *testing.T) {
	for _, keys := range []int{0, 1, 5, 8, 9, 30} {
		for _, steps := range []int{0, 1, 4, keys, keys + 1, keys + 3} {
			what := fmt.Sprintf("%d keys, %d steps", keys, steps)
			j := done(t, 1<<16, puts(keys)...)
			p := plainBegin(t, 1<<16)
			for _, c := range puts(keys) {
				p.do(c)
			}
			both := func(c api.Cmd) {
				t.Helper()
				if a, b := j.Do(c), p.do(c); a != b {
					t.Fatalf("P20.3: %s: %+v: %+v, want %+v", what, c, a, b)
				}
				wantLog(t, "P20.3: "+what, j, p.log())
			}
			both(api.Cmd{Op: api.OpOpen, H: 1, U: 4, V: 9})
			for range steps {
				both(api.Cmd{Op: api.OpNext, H: 2})
			}
			walks(t, what, j)
			walks(t, what, j)
			both(api.Cmd{Op: api.OpPut, H: 1, Key: key(1, 77), Elem: "x"})
			both(api.Cmd{Op: api.OpNext, H: 2})
			walks(t, what+", gone on", j)
			both(api.Cmd{Op: api.OpRelease, Hs: []int{1 + (steps+keys)%2}})
			marked(t, what+", released", j)
			p.mark()
			both(api.Cmd{Op: api.OpClone, H: 1})
			both(api.Cmd{Op: api.OpNext, H: 2})
			recovered(t, what, p.log(), 2)
		}
	}
}

// TestMarkClearedWalk: P20.3: a walk whose map was cleared is not released for that; one whose map was released is.
func TestMarkClearedWalk(t *testing.T) {
	j := done(t, 1<<16, puts(9)...)
	j.Do(api.Cmd{Op: api.OpOpen, H: 1})
	j.Do(api.Cmd{Op: api.OpNext, H: 2})
	j.Do(api.Cmd{Op: api.OpClear, H: 1})
	walks(t, "a cleared map", j)
	j.Do(api.Cmd{Op: api.OpNext, H: 2})
	walks(t, "a cleared map, the walk is done", j)
	j.Do(api.Cmd{Op: api.OpRelease, Hs: []int{1}})
	marked(t, "a released map", j)
}

// TestMarkedGoesOn: P20.3, P20.6: behind a mark the first record is the next changing command, and hangs on the new head's sum; answers go on as those of a journal without a mark.
func TestMarkedGoesOn(t *testing.T) {
	for _, keys := range []int{0, 3, 8, 20, 40} {
		j, other, p := done(t, 1<<16, puts(keys)...), done(t, 1<<16, puts(keys)...), plainBegin(t, 1<<16)
		for _, c := range puts(keys) {
			p.do(c)
		}
		d := draws(int64(keys))
		for n := range 200 {
			if n%40 == 0 {
				for _, k := range []*journal.Journal{j, other} {
					k.Do(api.Cmd{Op: api.OpRelease, Hs: walksOf(k.Store())})
				}
				p.do(api.Cmd{Op: api.OpRelease, Hs: walksOf(p.store)})
				marked(t, fmt.Sprint(keys, " keys"), j)
				p.mark()
			}
			c := d.command(j.Store())
			a, b := j.Do(c), other.Do(c)
			p.do(c)
			if a != b {
				t.Fatalf("P20.3: %d keys: behind a mark %+v: %+v, without one %+v", keys, c, a, b)
			}
			wantLog(t, fmt.Sprint("P20.3: ", keys, " keys"), j, p.log())
		}
		if state(j.Store()) != state(other.Store()) {
			t.Errorf("P20.3: %d keys: with marks and without them the stores are two", keys)
		}
	}
}
