package crew_test

import (
	"slices"
	"testing"

	"larder/api"
	"larder/crew"
)

// wild: any command: each number drawn from the ends of the range and from what there is.
func (d drawer) wild() api.Cmd {
	edge := func() int {
		return d.oneOf(least, least+1, most, most-1, 0, 1, -1, -2, 2, 12, 13, 1<<62, -1<<62, 1<<31, -1<<31, 1<<32, d.Intn(20), -d.Intn(20), int(d.Uint64()))
	}
	c := api.Cmd{Op: d.oneOf(api.OpGet, api.OpLen, api.OpProbes, api.OpSlots, api.OpOpen, api.OpNext, api.OpRelease), H: edge(), N: edge(), U: uint64(edge()), V: uint64(edge()), Key: key(d.Intn(150))}
	if d.Intn(5) == 0 {
		c.Key = string(make([]byte, d.oneOf(0, 2, 128, 129, 5000)))
	}
	if c.Op == api.OpNext && c.H >= 0 && d.Intn(50) > 0 {
		c.H = -1 - d.Intn(9)
	}
	for range d.Intn(5) {
		n := edge()
		if c.Op == api.OpRelease && n >= 0 && d.Intn(50) > 0 {
			n = -1 - d.Intn(9)
		}
		c.Hs = append(c.Hs, n)
		c.Fields = append(c.Fields, edge())
	}
	if d.Intn(400) == 0 {
		c.Op = edge()
	}
	return c
}

// readsOnly: is each command a reading one, by the chapter's words?
func readsOnly(jobs [][]api.Cmd) bool {
	for _, c := range slices.Concat(jobs...) {
		asks := slices.Contains([]int{api.OpGet, api.OpLen, api.OpProbes, api.OpSlots, api.OpOpen}, c.Op)
		steps := c.Op == api.OpNext && c.H < 0
		drops := c.Op == api.OpRelease && (len(c.Hs) == 0 || slices.Max(c.Hs) < 0)
		if !asks && !steps && !drops {
			return false
		}
	}
	return true
}

// TestAnyCommands: P17.5, P17.1, P17.2: any commands: each call ends, none panics; the jobs are refused where one command is no reading one, and else answered as alone.
func TestAnyCommands(t *testing.T) {
	refused, taken := 0, 0
	for seed := range int64(300) {
		d := draws(7000 + seed)
		jobs := make([][]api.Cmd, d.Intn(19))
		for i := range jobs {
			for range d.Intn(20) {
				jobs[i] = append(jobs[i], d.wild())
			}
		}
		s := world(t)
		switch {
		case len(jobs) > 16:
			refuses(t, s, api.ErrReaders, jobs...)
		case !readsOnly(jobs):
			refuses(t, s, api.ErrWrite, jobs...)
			refused++
		default:
			reads(t, s, jobs, alone(t, jobs)...)
			taken++
		}
	}
	if refused < 20 || taken < 20 {
		t.Errorf("of the drawn jobs %d are refused, %d are taken", refused, taken)
	}
}

// TestLongJobs: P17.5: jobs of many commands, and a release of many numbers.
func TestLongJobs(t *testing.T) {
	s := bench(t)
	cs := slices.Repeat(job(get(1, "a"), open(1), next(-1)), 7000)
	var numbers []int
	for k := 7000; k > 0; k-- {
		numbers = append(numbers, -k)
	}
	cs = append(cs, release(append(slices.Clone(numbers), -1)...), release(append(slices.Clone(numbers), -7001)...), release(numbers...), release(-7000))
	got, e := crew.Read(s, cs, cs, nil, cs)
	if e != api.OK || len(got) != 4 {
		t.Fatalf("P17.5: Read of long jobs: error %d, %d lists", e, len(got))
	}
	for _, i := range []int{0, 1, 3} {
		last := got[i][len(got[i])-4:]
		if want := answers(wrong(api.OpRelease, api.ErrAgain), wrong(api.OpRelease, api.ErrHandle), released(), wrong(api.OpRelease, api.ErrGone)); !slices.Equal(last, want) {
			t.Errorf("P17.2: the last answers of a long job are %+v, want %+v", last, want)
		}
		if got[i][7000*3-2] != opened(7000) {
			t.Errorf("P17.2: the last walk of a long job is %+v", got[i][7000*3-2])
		}
	}
	if hs := s.Handles(); !slices.Equal(hs, []int{1}) || s.Hold().Next != 2+3*7000 {
		t.Errorf("P17.4: behind long jobs the handles are %v, the next one is %d", hs, s.Hold().Next)
	}
}
