package journal_test

import (
	"fmt"
	"testing"

	"larder/api"
	"larder/journal"
)

// story: a log that Log told, where its head and each of its records end, and the store's state there.
type story struct {
	what   string
	log    string
	ends   []int
	states []string
}

// tell: what a journal does from now on, with these commands; the log behind the last of them.
func tell(t testing.TB, what string, j *journal.Journal, cmds func(n int) (api.Cmd, bool)) story {
	t.Helper()
	s := story{what: what, ends: []int{len(j.Log())}, states: []string{state(j.Store())}}
	for n := 0; ; n++ {
		c, more := cmds(n)
		if !more {
			break
		}
		was := len(j.Log())
		j.Do(c)
		if now := len(j.Log()); now > was {
			s.ends, s.states = append(s.ends, now), append(s.states, state(j.Store()))
		}
	}
	s.log = string(j.Log())
	return s
}

// records: how many of them are whole ahead of that place; -1, if the head is not.
func (s story) records(cut int) int {
	n := -1
	for n+1 < len(s.ends) && s.ends[n+1] <= cut {
		n++
	}
	return n
}

// stories: logs of both kinds, of every command, with overrides and without them.
func stories(t testing.TB) []story {
	t.Helper()
	few := []api.Cmd{{Op: api.OpMake, U: 3, Fields: plain}, {Op: api.OpPut, H: 1, Key: "a", Elem: "x"}, {Op: api.OpPut, H: 1, Key: "b", Elem: "y"}, {Op: api.OpGet, H: 1, Key: "b"}, {Op: api.OpOpen, H: 1, U: 1, V: 2}, {Op: api.OpNext, H: 2}, {Op: api.OpClone, H: 1}, {Op: api.OpDelete, H: 3, Key: "a"}, {Op: 99}, {Op: api.OpClear, H: 1, U: 77}, {Op: api.OpNext, H: 2}, {Op: api.OpNext, H: -2}, {Op: api.OpRelease}, {Op: api.OpRelease, Hs: []int{3, 2}}, {Op: api.OpPut, H: 1}}
	all := func(n int) (api.Cmd, bool) {
		if n == len(few) {
			return api.Cmd{}, false
		}
		return few[n], true
	}
	drawn := func(j *journal.Journal, seed int64, most int) func(n int) (api.Cmd, bool) {
		d := draws(seed)
		return func(n int) (api.Cmd, bool) { return d.command(j.Store()), n < most }
	}
	l := []story{
		tell(t, "a head alone", begin(t, 0), drawn(begin(t, 0), 1, 0)),
		tell(t, "each command", begin(t, 4096), all),
		tell(t, "each command, overrides", begin(t, 4096, api.Over{Key: "a", Hash: 1 << 63}, api.Over{Key: "bcd", Hash: 5}), all),
	}
	j := begin(t, 4096)
	marked(t, "nothing", j)
	l = append(l, tell(t, "each command behind an image of nothing", j, all))
	j = done(t, 4096, puts(4)...)
	marked(t, "four keys", j)
	l = append(l, tell(t, "an image", j, drawn(j, 1, 0)), tell(t, "drawn commands behind an image", j, drawn(j, 2, 12)))
	j = begin(t, 1500)
	return append(l, tell(t, "drawn commands", j, drawn(j, 3, 60)))
}

// TestCut: P20.7, U10: a log that is cut off at each length: in its head it is refused, else the journal is as it was behind the records that were whole ahead of the cut.
func TestCut(t *testing.T) {
	for _, s := range stories(t) {
		if s.ends[len(s.ends)-1] != len(s.log) {
			t.Fatalf("%s: the log has %d bytes, its last record ends at %d", s.what, len(s.log), s.ends[len(s.ends)-1])
		}
		for cut := range len(s.log) + 1 {
			what := fmt.Sprintf("P20.7: %s: cut off at %d", s.what, cut)
			n := s.records(cut)
			if n < 0 {
				refused(t, what, s.log[:cut], api.ErrLog)
				continue
			}
			j := recoveredTo(t, what, s.log[:cut], n, s.log[:s.ends[n]])
			if state(j.Store()) != s.states[n] {
				t.Fatalf("%s: the store is not as it was behind %d records", what, n)
			}
		}
	}
}

// TestCutGoesOn: P20.7: what is made of a log that was cut off goes on as the journal would have that was stopped there; and its log can be cut off again.
func TestCutGoesOn(t *testing.T) {
	d, first := draws(11), begin(t, 6000)
	var cmds []api.Cmd
	ends := []int{len(first.Log())}
	for len(cmds) < 60 {
		c := d.command(first.Store())
		if first.Do(c); plainForm(c) != "" {
			cmds, ends = append(cmds, c), append(ends, len(first.Log()))
		}
	}
	log := string(first.Log())
	for n := range cmds {
		for _, cut := range []int{ends[n], ends[n] + 1, (ends[n] + ends[n+1]) / 2, ends[n+1] - 1} {
			j, k := done(t, 6000, cmds[:n]...), recoveredTo(t, "cut off", log[:cut], n, log[:ends[n]])
			d := draws(int64(cut))
			for range 20 {
				both(t, fmt.Sprint("cut off at ", cut), j, k, d.command(j.Store()))
			}
			alike(t, fmt.Sprint("cut off at ", cut), j, k)
			l := string(k.Log())
			asPlainly(t, "cut off again", l[:(cut+len(l))/2])
		}
	}
}
