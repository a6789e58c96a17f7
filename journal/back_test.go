package journal_test

import (
	"fmt"
	"strings"
	"testing"

	"larder/api"
	"larder/journal"
)

// met: how often each thing was met.
type met map[string]int

func (m met) answer(a api.Answer) { m[fmt.Sprint("op ", a.Op, ", error ", a.Err)]++ }

// both: one command for two journals: they answer the same.
func both(t testing.TB, what string, j, k *journal.Journal, c api.Cmd) api.Answer {
	t.Helper()
	a, b := j.Do(c), k.Do(c)
	if a != b {
		t.Fatalf("P20.6: %s: %+v: the logged journal answers %+v, the one made anew %+v", what, c, a, b)
	}
	return a
}

// alike: two journals are the same, as far as they can be asked without being changed.
func alike(t testing.TB, what string, j, k *journal.Journal) {
	t.Helper()
	if state(j.Store()) != state(k.Store()) {
		t.Fatalf("P20.6: %s: the logged store and the one made anew are not alike", what)
	}
	if string(j.Log()) != string(k.Log()) {
		t.Fatalf("P20.6: %s: the logs are not alike", what)
	}
}

// back: what Recover makes of a journal's log, all of which is good.
func back(t testing.TB, what string, j *journal.Journal) *journal.Journal {
	t.Helper()
	k, _, e := journal.Recover(j.Log())
	if k == nil || e != api.OK {
		t.Fatalf("P20.6: %s: journal %v, error %d", what, k != nil, e)
	}
	alike(t, what, j, k)
	return k
}

// mark: Mark for both journals; now and then the walks are released ahead of it.
func mark(t testing.TB, what string, j, k *journal.Journal, d drawer, m met) {
	t.Helper()
	if d.Intn(3) > 0 {
		both(t, what, j, k, api.Cmd{Op: api.OpRelease, Hs: walksOf(j.Store())})
	}
	e, f := j.Mark(), k.Mark()
	if e != f {
		t.Fatalf("P20.6: %s: Mark: error %d and %d", what, e, f)
	}
	m[fmt.Sprint("mark, error ", e)]++
}

// toTheEnd: all walks of both journals are gone to their ends: they yield the same.
func toTheEnd(t testing.TB, what string, j, k *journal.Journal, m met) {
	t.Helper()
	for _, h := range walksOf(j.Store()) {
		for both(t, what, j, k, api.Cmd{Op: api.OpNext, H: h}).Yes {
			m["pairs of walks that were open"]++
		}
	}
	alike(t, what+", behind the walks' ends", j, k)
}

// TestThereAndBack: P20.6: behind scripts of every kind, with marks in between, and walks that are open: what is made of the log answers further scripts as the logged one does, all bytes and the logs stay the same; so is what is made of that one's log, and so on.
func TestThereAndBack(t *testing.T) {
	m := met{}
	for kind, of := range hashes {
		for _, limit := range []int{1500, 6000, 1 << 19} {
			for seed := range 8 {
				thereAndBack(t, fmt.Sprint(kind, ", limit ", limit, ", seed ", seed), limit, overs(of), int64(seed), m)
			}
		}
	}
	for _, op := range []int{api.OpMake, api.OpGet, api.OpPut, api.OpDelete, api.OpLen, api.OpClear, api.OpClone, api.OpOpen, api.OpNext, api.OpRelease, api.OpLive, api.OpProbes, api.OpSlots, api.OpAudit} {
		if n := m[fmt.Sprint("op ", op, ", error ", api.OK)]; n < 100 {
			t.Errorf("the test is too tame: the command %d is done %d times", op, n)
		}
	}
	for _, what := range []string{"op 1, error 22", "op 3, error 22", "op 7, error 22", "mark, error 0", "mark, error 193", "pairs of walks that were open", "walks that were open", "retired"} {
		if m[what] < 20 {
			t.Errorf("the test is too tame: %s: %d", what, m[what])
		}
	}
}

func thereAndBack(t *testing.T, what string, limit int, over []api.Over, seed int64, m met) {
	t.Helper()
	d := draws(seed)
	j := begin(t, limit, over...)
	for n := range 60 + 20*int(seed) {
		j.Do(d.command(j.Store()))
		if d.Intn(60) == 0 && n > 20 {
			j.Mark()
		}
	}
	for generation := range 4 {
		what := fmt.Sprint(what, ", generation ", generation)
		k := back(t, what, j)
		m["walks that were open"] += len(walksOf(k.Store()))
		m["retired"] += retired(k)
		for n := range 120 {
			m.answer(both(t, what, j, k, d.command(j.Store())))
			if d.Intn(40) == 0 {
				mark(t, what, j, k, d, m)
			}
			if n%10 == 9 {
				alike(t, what, j, k)
			}
		}
		if generation == 3 {
			toTheEnd(t, what, j, k, m)
		}
		j = k // the next one is made of the log of the one made anew
	}
	if a := j.Do(api.Cmd{Op: api.OpRelease, Hs: j.Store().Handles()}); a.Err != api.OK || j.Store().Live() != 0 {
		t.Fatalf("P20.6: %s: behind the release of all handles %d bytes are live, error %d", what, j.Store().Live(), a.Err)
	}
}

// retired: how many blocks begin as a retired table or a retired small block does.
func retired(j *journal.Journal) int {
	n, a := 0, j.Store().Arena()
	for off := range a.Blocks() {
		if kind, _ := a.Load(off, 8); kind == api.KindSmallRetired || kind == api.KindTableRetired {
			n++
		}
	}
	return n
}

// TestBackAtEachCommand: P20.6: a journal is made anew behind each command; both go on to the script's end.
func TestBackAtEachCommand(t *testing.T) {
	for _, seed := range []int64{1, 2, 3} {
		var cmds []api.Cmd
		d, first := draws(seed), begin(t, 4096)
		for range 100 {
			c := d.command(first.Store())
			cmds = append(cmds, c)
			first.Do(c)
		}
		end := string(first.Log())
		for n := range len(cmds) + 1 {
			j := done(t, 4096, cmds[:n]...)
			k := back(t, fmt.Sprint("behind ", n, " commands"), j)
			for _, c := range cmds[n:] {
				both(t, fmt.Sprint("behind ", n, " commands"), j, k, c)
			}
			alike(t, fmt.Sprint("behind ", n, " commands, at the end"), j, k)
			wantLog(t, "P20.6: at the end", k, end)
		}
	}
}

// walked: a map with so many keys, and four walks over it that have taken so many steps, with changes of the map behind each.
func walked(t testing.TB, keys, steps int) *journal.Journal {
	t.Helper()
	j := done(t, 1<<18, puts(keys)...)
	for draw := range uint64(4) {
		j.Do(api.Cmd{Op: api.OpOpen, H: 1, U: draw << 61, V: draw * 3})
	}
	for n := range steps {
		for h := 2; h <= 5; h++ {
			j.Do(api.Cmd{Op: api.OpNext, H: h})
		}
		j.Do(api.Cmd{Op: api.OpPut, H: 1, Key: key(1, 100+n), Elem: "n"})
		j.Do(api.Cmd{Op: api.OpDelete, H: 1, Key: key(1, 3*n)})
	}
	return j
}

// TestOpenWalks: P20.6: walks with many draws, at each of their steps, with changes of their map meanwhile: they are open again, and yield what is left, in the same order.
func TestOpenWalks(t *testing.T) {
	m := met{}
	for _, keys := range []int{0, 1, 7, 8, 9, 14, 15, 40, 100} {
		for steps := 0; steps < keys+2; steps += 1 + keys/20 {
			what := fmt.Sprint(keys, " keys, ", steps, " steps")
			j := walked(t, keys, steps)
			k := back(t, what, j)
			if n := len(walksOf(k.Store())); n != 4 {
				t.Fatalf("P20.6: %s: %d walks are open, want 4", what, n)
			}
			toTheEnd(t, what, j, k, m)
		}
	}
	if n := m["pairs of walks that were open"]; n < 1000 {
		t.Errorf("the test is too tame: %d pairs", n)
	}
}

// TestDeadHandles: P20.6: handles are the same: given ones, dead ones, and the next.
func TestDeadHandles(t *testing.T) {
	for seed := range int64(10) {
		d, j := draws(seed), begin(t, 1<<16)
		for range 150 {
			j.Do(d.command(j.Store()))
		}
		for range 2 {
			k := back(t, fmt.Sprint("seed ", seed), j)
			for h := -1; h < j.Store().Hold().Next+3; h++ {
				for _, op := range []int{api.OpLen, api.OpSlots, api.OpProbes, api.OpNext} {
					both(t, fmt.Sprint("seed ", seed), j, k, api.Cmd{Op: op, H: h, Key: "a"})
				}
			}
			both(t, fmt.Sprint("seed ", seed), j, k, api.Cmd{Op: api.OpMake, Fields: plain})
			alike(t, fmt.Sprint("seed ", seed), j, k)
			j.Do(api.Cmd{Op: api.OpRelease, Hs: walksOf(j.Store())})
			marked(t, fmt.Sprint("seed ", seed), j)
		}
	}
}

// TestNothingInCommon: W2: what is done to a journal, or to one that was made of its log, is seen in no other.
func TestNothingInCommon(t *testing.T) {
	for seed := range int64(6) {
		d, j := draws(seed), begin(t, 1<<16)
		for range 80 {
			j.Do(d.command(j.Store()))
		}
		if seed%2 == 0 {
			j.Do(api.Cmd{Op: api.OpRelease, Hs: walksOf(j.Store())})
			marked(t, "a mark", j)
		}
		all := []*journal.Journal{j, back(t, "one", j), back(t, "two", j), back(t, "three", j)}
		for i, k := range all {
			for _, o := range all[:i] {
				if k == o || k.Store() == o.Store() || k.Store().Arena() == o.Store().Arena() || k.Store().Oracle() == o.Store().Oracle() {
					t.Fatalf("W2: journal %d shares something with another", i)
				}
			}
		}
		log, was := string(j.Log()), state(j.Store())
		for i, k := range all {
			d := draws(100*seed + int64(i))
			for range 60 {
				k.Do(d.command(k.Store()))
			}
			for _, o := range all[i+1:] {
				wantLog(t, "W2: what is done to another journal", o, log)
				if state(o.Store()) != was {
					t.Fatal("W2: what is done to one journal's store is seen in another's")
				}
			}
		}
	}
}

// TestGreatLog: P20.6: some thousand commands, a map that has grown to many tables, and the greatest image.
func TestGreatLog(t *testing.T) {
	j := begin(t, api.MaxLimit)
	j.Do(api.Cmd{Op: api.OpMake, U: 9, Fields: []int{4, 8, 4, 8, 16}})
	n := 0
	for ; j.Do(api.Cmd{Op: api.OpPut, H: 1, Key: key(4, n), Elem: strings.Repeat("e", 8)}).Err == api.OK; n++ {
	}
	if n < 5000 {
		t.Fatalf("the test is too tame: %d keys", n)
	}
	for _, what := range []string{"records", "an image"} {
		k := back(t, what, j)
		for i := range 200 {
			both(t, what, j, k, api.Cmd{Op: api.OpDelete, H: 1, Key: key(4, 7*i)})
			both(t, what, j, k, api.Cmd{Op: api.OpProbes, H: 1, Key: key(4, i)})
		}
		alike(t, what, j, k)
		marked(t, what, j)
	}
}
