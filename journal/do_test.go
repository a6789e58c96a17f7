package journal_test

import (
	"fmt"
	"math"
	"slices"
	"strings"
	"testing"

	"larder/api"
	"larder/journal"
	"larder/script"
	"larder/store"
)

// step: a command, its answer, and its record's body; "" where it has none.
type step struct {
	c    api.Cmd
	want api.Answer
	body string
}

// follow: the steps on a journal: answers, and the log byte by byte.
func follow(t *testing.T, j *journal.Journal, steps []step) {
	t.Helper()
	log := string(j.Log())
	sum := plainMix(20, log[:len(log)-8])
	for _, s := range steps {
		if a := j.Do(s.c); a != s.want {
			t.Fatalf("P20.2: %+v: %+v, want %+v", s.c, a, s.want)
		}
		if s.body != "" {
			row := words(uint64(len(s.body))) + s.body
			sum = plainMix(sum, row)
			log += row + words(sum)
		}
		wantLog(t, fmt.Sprintf("P20.2: %+v", s.c), j, log)
	}
}

// TestRecords: P20.2: the record of each changing command, byte by byte, done and refused.
func TestRecords(t *testing.T) {
	follow(t, begin(t, 1000), []step{
		{api.Cmd{Op: api.OpMake, U: 7, Fields: plain}, api.Answer{Op: 1, N: 1}, words(1, 7, 0, 5, 1, 1, 1, 1, 16)},
		{api.Cmd{Op: api.OpMake, U: 1 << 63, N: -1, Fields: plain}, api.Answer{Op: 1, Err: api.ErrHint}, words(1, 1<<63, 1<<64-1, 5, 1, 1, 1, 1, 16)},
		{api.Cmd{Op: api.OpMake, N: 4097}, api.Answer{Op: 1, Err: api.ErrFields}, words(1, 0, 4097, 0)},
		{api.Cmd{Op: api.OpMake, Fields: []int{}}, api.Answer{Op: 1, Err: api.ErrFields}, words(1, 0, 0, 0)},
		{api.Cmd{Op: api.OpMake, Fields: []int{0, -1, math.MinInt, math.MaxInt, 256}}, api.Answer{Op: 1, Err: api.ErrKey}, words(1, 0, 0, 5, 0, 1<<64-1, 1<<63, 1<<63-1, 256)},
		{api.Cmd{Op: api.OpMake, U: math.MaxUint64, N: 100, Fields: plain}, api.Answer{Op: 1, Err: api.ErrMemory}, words(1, 1<<64-1, 100, 5, 1, 1, 1, 1, 16)},
		{api.Cmd{Op: api.OpPut, H: 1, Key: "a", Elem: "x"}, api.Answer{Op: 3, Yes: true}, words(3, 1, 1) + "a" + words(1) + "x"},
		{api.Cmd{Op: api.OpPut, H: 1, Key: "a", Elem: "\xff"}, api.Answer{Op: 3}, words(3, 1, 1) + "a" + words(1) + "\xff"},
		{api.Cmd{Op: api.OpPut, H: 1}, api.Answer{Op: 3, Err: api.ErrKeyWidth}, words(3, 1, 0, 0)},
		{api.Cmd{Op: api.OpPut, H: 1, Key: "b", Elem: "long"}, api.Answer{Op: 3, Err: api.ErrElemWidth}, words(3, 1, 1) + "b" + words(4) + "long"},
		{api.Cmd{Op: api.OpPut, H: -2, Elem: "elem"}, api.Answer{Op: 3, Err: api.ErrHandle}, words(3, 1<<64-2, 0, 4) + "elem"},
		{api.Cmd{Op: api.OpOpen, H: 1, U: 5, V: 6}, api.Answer{Op: 8, N: 2}, words(8, 1, 5, 6)},
		{api.Cmd{Op: api.OpOpen, H: 2, U: math.MaxUint64, V: 1 << 63}, api.Answer{Op: 8, Err: api.ErrKind}, words(8, 2, 1<<64-1, 1<<63)},
		{api.Cmd{Op: api.OpNext, H: 2}, api.Answer{Op: 9, Yes: true, Key: "a", Elem: "\xff"}, words(9, 2)},
		{api.Cmd{Op: api.OpNext, H: 2}, api.Answer{Op: 9}, words(9, 2)},
		{api.Cmd{Op: api.OpNext, H: 2}, api.Answer{Op: 9}, words(9, 2)},
		{api.Cmd{Op: api.OpNext, H: math.MinInt}, api.Answer{Op: 9, Err: api.ErrHandle}, words(9, 1<<63)},
		{api.Cmd{Op: api.OpDelete, H: 1, Key: "b"}, api.Answer{Op: 4}, words(4, 1, 1) + "b"},
		{api.Cmd{Op: api.OpDelete, H: 1, Key: "a"}, api.Answer{Op: 4, Yes: true}, words(4, 1, 1) + "a"},
		{api.Cmd{Op: api.OpDelete, H: math.MaxInt}, api.Answer{Op: 4, Err: api.ErrHandle}, words(4, 1<<63-1, 0)},
		{api.Cmd{Op: api.OpDelete, H: 1, Key: "\x00\x01\x02"}, api.Answer{Op: 4, Err: api.ErrKeyWidth}, words(4, 1, 3) + "\x00\x01\x02"},
		{api.Cmd{Op: api.OpClone, H: 1}, api.Answer{Op: 7, N: 3}, words(7, 1)},
		{api.Cmd{Op: api.OpClone, H: 2}, api.Answer{Op: 7, Err: api.ErrKind}, words(7, 2)},
		{api.Cmd{Op: api.OpClone, H: -7}, api.Answer{Op: 7, Err: api.ErrHandle}, words(7, 1<<64-7)},
		{api.Cmd{Op: api.OpClear, H: 1, U: math.MaxUint64}, api.Answer{Op: 6}, words(6, 1, 1<<64-1)},
		{api.Cmd{Op: api.OpClear, H: 0, U: 3}, api.Answer{Op: 6, Err: api.ErrHandle}, words(6, 0, 3)},
		{api.Cmd{Op: api.OpRelease, Hs: []int{1, 2, 1}}, api.Answer{Op: 10, Err: api.ErrAgain}, words(10, 3, 1, 2, 1)},
		{api.Cmd{Op: api.OpRelease, Hs: []int{2, -1, math.MinInt}}, api.Answer{Op: 10, Err: api.ErrHandle}, words(10, 3, 2, 1<<64-1, 1<<63)},
		{api.Cmd{Op: api.OpRelease}, api.Answer{Op: 10}, words(10, 0)},
		{api.Cmd{Op: api.OpRelease, Hs: []int{}}, api.Answer{Op: 10}, words(10, 0)},
		{api.Cmd{Op: api.OpRelease, Hs: []int{3, 1}}, api.Answer{Op: 10}, words(10, 2, 3, 1)},
		{api.Cmd{Op: api.OpRelease, Hs: []int{2}}, api.Answer{Op: 10, Err: api.ErrGone}, words(10, 1, 2)},
		{api.Cmd{Op: api.OpPut, H: 1, Key: "a", Elem: "x"}, api.Answer{Op: 3, Err: api.ErrGone}, words(3, 1, 1) + "a" + words(1) + "x"},
	})
}

// TestLongRecords: P20.2: keys, elems and lists far longer than any map has them.
func TestLongRecords(t *testing.T) {
	long, list := strings.Repeat("\x00\xff", 40000), make([]int, 20000)
	row := make([]uint64, len(list))
	for i := range list {
		list[i], row[i] = i-7, uint64(i)-7
	}
	n := uint64(len(list))
	j := begin(t, 4096)
	follow(t, j, []step{
		{api.Cmd{Op: api.OpPut, H: 1, Key: long, Elem: long[1:]}, api.Answer{Op: 3, Err: api.ErrHandle}, words(3, 1, 80000) + long + words(79999) + long[1:]},
		{api.Cmd{Op: api.OpDelete, H: 1, Key: long}, api.Answer{Op: 4, Err: api.ErrHandle}, words(4, 1, 80000) + long},
		{api.Cmd{Op: api.OpMake, Fields: list}, api.Answer{Op: 1, Err: api.ErrFields}, words(1, 0, 0, n) + words(row...)},
		{api.Cmd{Op: api.OpRelease, Hs: list}, api.Answer{Op: 10, Err: api.ErrHandle}, words(10, n) + words(row...)},
	})
	recovered(t, "long records", string(j.Log()), 4)
}

// TestUnused: P20.2: of what an Op does not use nothing is written, whatever stands there; what it uses is.
func TestUnused(t *testing.T) {
	bare := func(op int) api.Cmd {
		c := api.Cmd{Op: op}
		for _, f := range fieldsOf[op] {
			switch f {
			case 'H':
				c.H = 3
			case 'N':
				c.N = 4
			case 'U':
				c.U = 5
			case 'V':
				c.V = 6
			case 'K':
				c.Key = "key"
			case 'E':
				c.Elem = "elem"
			case 'F':
				c.Fields = []int{7, 8}
			case 'S':
				c.Hs = []int{9, 10}
			}
		}
		return c
	}
	full := api.Cmd{H: 3, N: 4, U: 5, V: 6, Key: "key", Elem: "elem", Fields: []int{7, 8}, Hs: []int{9, 10}}
	for _, op := range changing {
		j, k := begin(t, 4096), begin(t, 4096)
		full.Op = op
		a, b := j.Do(bare(op)), k.Do(full)
		if a != b || string(j.Log()) != string(k.Log()) {
			t.Errorf("P20.2: the command %d: %+v and % x, and with all filled in %+v and % x", op, a, j.Log(), b, k.Log())
		}
		wantLog(t, fmt.Sprint("P20.2: the command ", op), j, laid(headPiece(0, newBody(4096)), recordPiece(plainForm(bare(op)))))
	}
}

// TestFieldsAtEdges: P20.2, P20.6: each field of each changing command with numbers of every kind: the record, and the command that is made of it again.
func TestFieldsAtEdges(t *testing.T) {
	for _, op := range changing {
		j := begin(t, 4096)
		p := plainBegin(t, 4096)
		for i, v := range edges {
			n, other := int(v), int(edges[(7*i+3)%len(edges)])
			c := api.Cmd{Op: op, H: n, N: other, U: v, V: ^v, Key: key(i%4, i), Elem: key(i%5, i), Fields: []int{n, other}[:i%3], Hs: []int{other, n}[i%3/2:]}
			if a, b := j.Do(c), p.do(c); a != b {
				t.Fatalf("P20.2: %+v: %+v, want %+v", c, a, b)
			}
		}
		wantLog(t, fmt.Sprint("P20.2: the command ", op), j, p.log())
		recovered(t, fmt.Sprint("the command ", op), p.log(), len(edges))
	}
}

// TestStill: P20.2: commands that change nothing, and Ops that are none, leave the log as it is, ahead of the first record, between two, and behind a mark; their answers are those of Play.
func TestStill(t *testing.T) {
	j := begin(t, 4096)
	s, _ := store.New(4096)
	all := func(what string) {
		log := string(j.Log())
		for _, op := range still {
			for h := range 4 {
				c := api.Cmd{Op: op, H: h, N: 4, U: 5, V: 6, Key: "a", Elem: "x", Fields: plain, Hs: []int{1}}
				if a, b := j.Do(c), script.Play(s, c); a != b {
					t.Errorf("P20.2: %s: %+v: %+v, want %+v", what, c, a, b)
				}
				wantLog(t, fmt.Sprintf("P20.2: %s: %+v", what, c), j, log)
			}
		}
		if state(j.Store()) != state(s) {
			t.Errorf("P20.2: %s: the store is another", what)
		}
	}
	all("ahead of the first record")
	for _, c := range []api.Cmd{{Op: api.OpMake, Fields: plain}, {Op: api.OpPut, H: 1, Key: "a", Elem: "x"}, {Op: api.OpOpen, H: 1}} {
		j.Do(c)
		script.Play(s, c)
		all(fmt.Sprintf("behind %+v", c))
	}
	c := api.Cmd{Op: api.OpRelease, Hs: []int{2}}
	j.Do(c)
	script.Play(s, c)
	if e := j.Mark(); e != api.OK {
		t.Fatalf("P20.3: error %d", e)
	}
	all("behind a mark")
	if a := j.Do(api.Cmd{Op: 99}); a != (api.Answer{Op: 99, Err: api.ErrText}) {
		t.Errorf("P20.2: the Op 99: %+v", a)
	}
}

// TestSums: P20.2: each sum hangs on the one ahead of it: the same command has another one at each place, and behind another head.
func TestSums(t *testing.T) {
	seen := map[string]string{}
	for limit := range 5 {
		j := begin(t, limit)
		log := string(j.Log())
		sum := log[len(log)-8:]
		for n := range 20 {
			j.Do(api.Cmd{Op: api.OpNext, H: 1})
			next := string(j.Log())
			row := words(16, 9, 1)
			ahead := uint64(0)
			for i := range 8 {
				ahead |= uint64(sum[i]) << (8 * i)
			}
			sum = words(plainMix(ahead, row))
			if next != log+row+sum {
				t.Fatalf("P20.2: limit %d, record %d: % x, want % x", limit, n, next[len(log):], row+sum)
			}
			place := fmt.Sprintf("limit %d, record %d", limit, n)
			if other, met := seen[sum]; met {
				t.Errorf("P20.2: %s, and %s: one sum", place, other)
			}
			seen[sum], log = place, next
		}
	}
}

// TestDrawnCommands: P20.2: scripts of every kind: answers, stores and logs are those of the words.
func TestDrawnCommands(t *testing.T) {
	for kind, of := range hashes {
		for _, limit := range []int{0, 1500, 6000, 1 << 19} {
			j, p, d := begin(t, limit, overs(of)...), plainBegin(t, limit, overs(of)...), draws(int64(limit))
			for n := range 300 {
				c := d.command(j.Store())
				if a, b := j.Do(c), p.do(c); a != b {
					t.Fatalf("P20.2: %s, limit %d: %+v: %+v, want %+v", kind, limit, c, a, b)
				}
				if n%50 > 0 {
					continue
				}
				if state(j.Store()) != state(p.store) {
					t.Fatalf("P20.2: %s, limit %d: behind %+v the store is another", kind, limit, c)
				}
				wantLog(t, fmt.Sprintf("P20.2: %s, limit %d", kind, limit), j, p.log())
			}
		}
	}
}

// TestRefusedPut: P20.2: a put that is refused by ErrMemory is written down: it has grown the map's structure, or the arena's end, and does so again.
func TestRefusedPut(t *testing.T) {
	grown := 0
	for limit := 300; limit < 3000; limit += 50 {
		j := begin(t, limit, overs(hashes["few hashes"])...)
		j.Do(api.Cmd{Op: api.OpMake, Fields: plain})
		records := 1
		for n := range 40 {
			was := state(j.Store())
			a := j.Do(api.Cmd{Op: api.OpPut, H: 1, Key: key(1, n), Elem: "x"})
			records++
			if a.Err == api.ErrMemory && state(j.Store()) != was {
				grown++
				k := recovered(t, fmt.Sprint("the limit ", limit), string(j.Log()), records)
				if state(k.Store()) != state(j.Store()) {
					t.Fatalf("P20.6: the limit %d: behind a refused put that has left something the store is another", limit)
				}
			}
		}
	}
	if grown < 10 {
		t.Errorf("the test is too tame: %d refused puts have left something", grown)
	}
}

// TestDoLists: W3: the lists of a command are neither changed nor kept, nor is the room behind them.
func TestDoLists(t *testing.T) {
	j := begin(t, 4096)
	fields, hs := []int{1, 1, 1, 1, 16, 5, 6}, []int{1, 2, 7, 8}
	j.Do(api.Cmd{Op: api.OpMake, Fields: fields[:5:6]})
	j.Do(api.Cmd{Op: api.OpMake, Fields: fields[:5]})
	j.Do(api.Cmd{Op: api.OpRelease, Hs: hs[:2]})
	if !slices.Equal(fields, []int{1, 1, 1, 1, 16, 5, 6}) || !slices.Equal(hs, []int{1, 2, 7, 8}) {
		t.Fatal("W3: Do has changed a list that it was given")
	}
	log, st := string(j.Log()), state(j.Store())
	clear(fields)
	clear(hs)
	wantLog(t, "W3: the lists are written over", j, log)
	if state(j.Store()) != st {
		t.Error("W3: Do has kept a list that it was given")
	}
}
