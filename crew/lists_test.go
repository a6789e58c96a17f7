package crew_test

import (
	"reflect"
	"slices"
	"testing"

	"larder/api"
	"larder/crew"
)

// roomy: the list, with spare room behind it that holds something.
func roomy[T any](list []T, spare ...T) []T {
	return slices.Concat(list, spare)[:len(list)]
}

// roomyJobs: jobs whose lists all have spare room; each call makes them anew.
func roomyJobs() [][]api.Cmd {
	one := roomy(job(open(few), open(few), next(-2), api.Cmd{Op: api.OpRelease, Hs: roomy([]int{-2, -1, -2}, -1, 9), Fields: roomy([]int{3, 1}, 2)}, api.Cmd{Op: api.OpRelease, Hs: roomy([]int{-2, -1}, -5)}), next(1), api.Cmd{Op: api.OpClear, H: few})
	two := roomy(job(get(few, "a"), api.Cmd{Op: api.OpLen, H: many, Hs: roomy([]int{5}, 6)}), api.Cmd{Op: 77})
	return roomy([][]api.Cmd{one, two, roomy([]api.Cmd(nil), next(5))}, job(next(1)), nil)
}

// whole: the jobs with all spare room.
func whole(jobs [][]api.Cmd) [][]api.Cmd {
	all := slices.Clone(jobs[:cap(jobs)])
	for i := range all {
		all[i] = slices.Clone(all[i][:cap(all[i])])
		for k := range all[i] {
			c := &all[i][k]
			c.Hs, c.Fields = slices.Clone(c.Hs[:cap(c.Hs)]), slices.Clone(c.Fields[:cap(c.Fields)])
		}
	}
	return all
}

// TestListsHandedIn: W3: no list that is handed in is changed, be the jobs taken or refused; what lies behind its end is not looked at.
func TestListsHandedIn(t *testing.T) {
	jobs := roomyJobs()
	reads(t, world(t), jobs,
		answers(opened(1), opened(2), pair("a", "x"), wrong(api.OpRelease, api.ErrAgain), released()),
		answers(found("x"), number(api.OpLen, 60)),
		nil)
	if !reflect.DeepEqual(whole(jobs), whole(roomyJobs())) {
		t.Errorf("W3: Read has changed a list that was handed in: %+v", whole(jobs))
	}
	jobs[1] = roomy(job(api.Cmd{Op: api.OpRelease, Hs: roomy([]int{-1, 4}, 7)}), next(1))
	was := whole(jobs)
	refuses(t, world(t), api.ErrWrite, jobs...)
	if !reflect.DeepEqual(whole(jobs), was) {
		t.Errorf("W3: a refused Read has changed a list that was handed in: %+v", whole(jobs))
	}
}

// TestListsAnswered: W3: the lists that are answered are new memory, spare room too: no two share any, and no later Read changes them or sees that they were changed.
func TestListsAnswered(t *testing.T) {
	s := bench(t)
	jobs := [][]api.Cmd{{get(1, "a"), length(1)}, {}, {open(1), next(-1)}, {get(1, "b")}}
	want := [][]api.Answer{{found("x"), number(api.OpLen, 2)}, {}, {opened(1), pair("a", "x")}, {found("y")}}
	first, _ := crew.Read(s, jobs...)
	second, _ := crew.Read(s, jobs...)
	for i := range second {
		for k := range second[i][:cap(second[i])] {
			second[i][:cap(second[i])][k] = api.Answer{Op: 99}
		}
		if bad := unlike(first, want); bad != "" {
			t.Fatalf("W3: a list of another Read was written, and this one has changed: %s", bad)
		}
		for other := i + 1; other < len(second); other++ {
			if !slices.Equal(second[other], want[other]) {
				t.Fatalf("W3: list %d was written, and list %d has changed: %+v", i, other, second[other])
			}
		}
	}
	for i := range second[:cap(second)] {
		second[:cap(second)][i] = nil
	}
	for i := range jobs { // what was handed in is the caller's again
		for k := range jobs[i] {
			jobs[i][k] = api.Cmd{Op: api.OpLen, H: 1, Key: "zz"}
		}
	}
	if bad := unlike(first, want); bad != "" {
		t.Errorf("W3: the answer has changed behind Read: %s", bad)
	}
}
