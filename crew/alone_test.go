package crew_test

import (
	"runtime"
	"slices"
	"testing"

	"larder/api"
	"larder/crew"
)

// TestAtOnceAlone: P17.3: many jobs together: each is answered as the same job alone, on a world that was made the same way, by Read and by the chapter's words.
func TestAtOnceAlone(t *testing.T) {
	for seed := range int64(40) {
		d := draws(2000 + seed)
		jobs := d.jobs(1 + d.Intn(16))
		want := alone(t, jobs)
		for i, cs := range jobs {
			readsOne(t, world(t), cs, want[i]...)
		}
		reads(t, world(t), jobs, want...)
	}
}

// TestAtOnceInAnotherOrder: P17.3: a job's answers hang neither on its place nor on the jobs beside it.
func TestAtOnceInAnotherOrder(t *testing.T) {
	d := draws(3000)
	jobs := d.jobs(16)
	want := alone(t, jobs)
	for range 40 {
		order := d.Perm(16)[:1+d.Intn(16)]
		var some [][]api.Cmd
		var told [][]api.Answer
		for _, i := range order {
			some = append(some, jobs[i])
			told = append(told, want[i])
		}
		reads(t, world(t), some, told...)
	}
}

// TestAtOnceAgain: P17.3: the same jobs again and again, on few processors and on many, so that schedules differ.
func TestAtOnceAgain(t *testing.T) {
	d := draws(4000)
	jobs := d.jobs(16)
	for i := range jobs {
		jobs[i] = append(jobs[i], d.command(), open(many), next(-1))
	}
	want := alone(t, jobs)
	defer runtime.GOMAXPROCS(runtime.GOMAXPROCS(0))
	for _, processors := range []int{1, 2, 3, 8, 64} {
		runtime.GOMAXPROCS(processors)
		for range 12 {
			reads(t, world(t), jobs, want...)
		}
	}
}

// TestAtOnceSame: P17.3: sixteen readers of one job, whose commands they share, each with walks of its own under the same numbers.
func TestAtOnceSame(t *testing.T) {
	cs := job(open(many), open(few), next(-2))
	cs = append(cs, slices.Repeat(job(next(-1), next(-2), get(many, "c"), next(-3)), 70)...)
	cs = append(cs, release(-2), next(-2), release(-1, -2), release(-1), next(-1))
	want := plainly(world(t), cs)
	for range 10 {
		reads(t, world(t), slices.Repeat([][]api.Cmd{cs}, 16), slices.Repeat([][]api.Answer{want}, 16)...)
	}
}

// TestAtOnceOtherWalks: P17.3: a job does not see another's walks: one opens many, one has none, one releases its own under the same numbers.
func TestAtOnceOtherWalks(t *testing.T) {
	opens := slices.Repeat(job(open(few)), 100)
	var numbers []int
	for k := 1; k <= 100; k++ {
		numbers = append(numbers, -k)
	}
	var none []api.Cmd
	var wantNone []api.Answer
	for k := 1; k <= 100; k++ {
		none = append(none, next(-k), release(-k), get(nextFree+k, "a"))
		wantNone = append(wantNone, wrong(api.OpNext, api.ErrHandle), wrong(api.OpRelease, api.ErrHandle), wrong(api.OpGet, api.ErrHandle))
	}
	walking := append(slices.Clone(opens), next(-100), next(-1))
	releasing := append(slices.Clone(opens), release(numbers...), next(-100), next(-1))
	wantOpens := plainly(world(t), opens)
	for range 20 {
		reads(t, world(t), [][]api.Cmd{none, walking, releasing, none, walking},
			wantNone,
			append(slices.Clone(wantOpens), pair("a", "x"), pair("a", "x")),
			append(slices.Clone(wantOpens), released(), wrong(api.OpNext, api.ErrGone), wrong(api.OpNext, api.ErrGone)),
			wantNone,
			append(slices.Clone(wantOpens), pair("a", "x"), pair("a", "x")))
	}
}

// TestAtOnceTwoReads: P17.3: two Reads of one store at the same time: a walk is nothing that the other would see.
func TestAtOnceTwoReads(t *testing.T) {
	s := world(t)
	before := kept(s)
	var jobs [][]api.Cmd
	for i := range 8 {
		cs := job(api.Cmd{Op: api.OpOpen, H: many, U: uint64(i) << 60, V: uint64(i)}, open(grown))
		cs = append(cs, slices.Repeat(job(next(-1), next(-2), get(many, key(i)), probes(grown, "b")), 62)...)
		jobs = append(jobs, append(cs, release(-2, -1)))
	}
	want := alone(t, jobs)
	ended := make(chan string)
	for range 6 {
		go func() {
			for range 5 {
				got, e := crew.Read(s, jobs...)
				if bad := unlike(got, want); e != api.OK || bad != "" {
					ended <- "error " + string(rune('0'+e%10)) + ", " + bad
					return
				}
			}
			ended <- ""
		}()
	}
	for range 6 {
		if bad := <-ended; bad != "" {
			t.Errorf("P17.3: two Reads at once: %s", bad)
		}
	}
	if kept(s) != before || s.Hold().Next != nextFree+6*5*8*2 {
		t.Errorf("P17.4: behind Reads at once the store is not as it was, or the next handle is not %d: %d", nextFree+6*5*8*2, s.Hold().Next)
	}
}
