package journal_test

import (
	"fmt"
	"strings"
	"testing"

	"larder/api"
	"larder/journal"
)

// goodBodies: forms of changing commands: at the least one of each, with lists and rows that are empty and that are not.
var goodBodies = []string{
	words(1, 7, 0, 5, 1, 1, 1, 1, 16), words(1, 0, 4097, 0), words(1, 1<<64-1, 1<<63, 1, 1<<64-1),
	words(3, 1, 1) + "a" + words(1) + "x", words(3, 1, 0, 0), words(3, 1<<64-1, 3) + "abc" + words(0), words(3, 5, 0, 9) + "012345678",
	words(4, 1, 1) + "a", words(4, 1<<63, 0), words(4, 2, 8) + "12345678",
	words(6, 1, 1<<64-1), words(6, 0, 0),
	words(7, 1), words(7, 1<<64-1),
	words(8, 1, 5, 6), words(8, 1<<63, 1<<63, 1<<64-1),
	words(9, 2), words(9, 0),
	words(10, 0), words(10, 1, 1), words(10, 3, 1, 1<<64-1, 1<<63),
}

// ahead: a head and two records that are good: what stands ahead of the record that is looked at.
func ahead() (piece, []piece) {
	return headPiece(0, newBody(4096)), []piece{recordPiece(words(1, 3, 0, 5, 1, 1, 1, 1, 16)), recordPiece(words(3, 1, 1) + "k" + words(1) + "v")}
}

// upTo: the record is not good, wherever it stands: the good ones ahead of it are done, and all behind it is let go, though it hangs on the sums that stand there, or on the last good one.
func upTo(t *testing.T, what string, odd piece) {
	t.Helper()
	head, good := ahead()
	for n := range len(good) + 1 {
		what := fmt.Sprintf("%s, as record %d", what, n)
		want := laid(head, good[:n]...)
		j := recoveredTo(t, what, laid(head, append(good[:n:n], odd)...), n, want)
		k := recoveredTo(t, what+", with good ones behind it", laid(head, append(append(good[:n:n], odd), good...)...), n, want)
		recoveredTo(t, what+", with one behind it that hangs on the last good one", laid(head, append(good[:n:n], odd)...)+laid(head, append(good[:n:n], behind...)...)[len(want):], n, want)
		p := plainBegin(t, 4096)
		for _, g := range good[:n] {
			c, fine := plainCommand(g.body)
			if !fine {
				t.Fatalf("% x is no form", g.body)
			}
			p.do(c)
		}
		for _, j := range []*journal.Journal{j, k} {
			if state(j.Store()) != state(p.store) {
				t.Fatalf("P20.5: %s: the store is not as it was behind the good records", what)
			}
		}
	}
}

// TestGoodRecords: P20.5: forms of changing commands are good, whatever they answer, each alone and all behind one another.
func TestGoodRecords(t *testing.T) {
	head, good := ahead()
	p := plainBegin(t, 4096)
	var all []piece
	for _, body := range goodBodies {
		c, fine := plainCommand(body)
		if !fine {
			t.Fatalf("% x is no form", body)
		}
		p.do(c)
		all = append(all, recordPiece(body))
		recovered(t, fmt.Sprintf("% x", body), laid(head, recordPiece(body)), 1)
		recovered(t, fmt.Sprintf("% x behind others", body), laid(head, append(good, recordPiece(body), recordPiece(body))...), 4)
	}
	j := recovered(t, "all of them", laid(head, all...), len(all))
	if state(j.Store()) != state(p.store) {
		t.Error("P20.5: behind all of them the store is another")
	}
}

// TestShortBodies: P20.5: each body that is too short for its command, with the right length and the right sum.
func TestShortBodies(t *testing.T) {
	for _, body := range goodBodies {
		for cut := range len(body) {
			upTo(t, fmt.Sprintf("%d bytes of % x", cut, body), recordPiece(body[:cut]))
		}
	}
}

// TestLongBodies: P20.5: each body that is too long for its command.
func TestLongBodies(t *testing.T) {
	for i, body := range goodBodies {
		for more := 1; more < 18; more++ {
			upTo(t, fmt.Sprintf("% x and %d bytes more", body, more), recordPiece(body+strings.Repeat("\x00", more)))
		}
		upTo(t, fmt.Sprintf("% x and another", body), recordPiece(body+goodBodies[(i+1)%len(goodBodies)]))
		upTo(t, fmt.Sprintf("% x twice", body), recordPiece(body+body))
		upTo(t, fmt.Sprintf("a zero ahead of % x", body), recordPiece("\x00"+body))
	}
}

// TestOtherOps: P20.5: bodies that have a changing command's fields, but another Op; also one that is a changing command's modulo 2^8, 2^16 or 2^32.
func TestOtherOps(t *testing.T) {
	for _, op := range still {
		for _, fields := range []string{"", words(1), words(1, 1), words(1, 1, 1), words(0), words(0, 0), words(1, 1) + "a", words(1, 1) + "a" + words(1) + "x", words(0, 0, 5, 1, 1, 1, 1, 16)} {
			upTo(t, fmt.Sprintf("the Op %d and % x", op, fields), recordPiece(words(uint64(op))+fields))
		}
	}
	for _, body := range goodBodies {
		for _, more := range []uint64{1 << 8, 1 << 16, 1 << 32, 1 << 63} {
			c, _ := plainCommand(body)
			upTo(t, fmt.Sprintf("% x with the Op %#x more", body, more), recordPiece(words(uint64(c.Op)+more)+body[8:]))
		}
	}
}

// TestOtherCounts: P20.5: rows and lists that are said to be longer or shorter than they are.
func TestOtherCounts(t *testing.T) {
	for _, c := range []struct {
		body string
		at   int
	}{{words(1, 7, 0, 5, 1, 1, 1, 1, 16), 24}, {words(1, 7, 0, 0), 24}, {words(3, 1, 1) + "a" + words(1) + "x", 16}, {words(3, 1, 1) + "a" + words(1) + "x", 25}, {words(3, 1, 0, 0), 24}, {words(4, 1, 1) + "a", 16}, {words(4, 1, 0), 16}, {words(10, 0), 8}, {words(10, 2, 1, 2), 8}} {
		for _, v := range edges {
			b := c.body[:c.at] + words(v) + c.body[c.at+8:]
			if b == c.body {
				continue
			}
			if _, good := plainCommand(b); good {
				t.Fatalf("% x is a form", b)
			}
			upTo(t, fmt.Sprintf("% x with %#x at %d", c.body, v, c.at), recordPiece(b))
		}
	}
}

// TestOtherLengths: P20.5: a record's length that is another than its body's, with the sum of what stands there: it goes beyond the log's end, or the body ends elsewhere.
func TestOtherLengths(t *testing.T) {
	for _, body := range goodBodies {
		for _, v := range edges {
			p := recordPiece(body)
			if p.count == v {
				continue
			}
			p.count = v
			upTo(t, fmt.Sprintf("% x of %#x bytes", body, v), p)
		}
	}
}

// TestWrongSums: P20.5: a record whose sum is another, by one bit or by all it hangs on.
func TestWrongSums(t *testing.T) {
	for _, body := range goodBodies {
		for shift := range 64 {
			p := recordPiece(body)
			p.spoil = 1 << shift
			upTo(t, fmt.Sprintf("% x, the sum is %#x more", body, p.spoil), p)
		}
	}
	head, good := ahead()
	log := laid(head, good...)
	for what, sum := range map[string]uint64{"the head's seed": 20, "0": 0, "the head's sum": plainMix(20, laid(head)[:len(laid(head))-8]), "the first record's sum": lastWord(laid(head, good[0]))} {
		row, _ := recordPiece(words(7, 1)).row(sum)
		recoveredTo(t, "a sum that hangs on "+what, log+row, 2, log)
	}
	row, _ := recordPiece(words(7, 1)).row(lastWord(log))
	recovered(t, "the right sum", log+row, 3)
}

// lastWord: that with which a log ends.
func lastWord(log string) (v uint64) {
	for i := range 8 {
		v |= uint64(log[len(log)-8+i]) << (8 * i)
	}
	return v
}

// TestRecordNotWhole: P20.5: records of which the end is not there.
func TestRecordNotWhole(t *testing.T) {
	head, good := ahead()
	log := laid(head, good...)
	for _, body := range goodBodies {
		whole := laid(head, append(good, recordPiece(body))...)
		for cut := len(log); cut < len(whole); cut++ {
			recoveredTo(t, fmt.Sprintf("%d bytes of % x", cut-len(log), body), whole[:cut], 2, log)
		}
	}
	for _, tail := range []string{"\x00", "\x00\x00\x00", words(0), words(0, 0), words(0, 0, 0), strings.Repeat("\x00", 1000), strings.Repeat("\xff", 1000), log} {
		recoveredTo(t, fmt.Sprintf("% x behind it", tail), log+tail, 2, log)
	}
}

// TestSwapped: P20.5: good records that stand in another order, twice, or not at all: up to there.
func TestSwapped(t *testing.T) {
	head, _ := ahead()
	var rows []string
	was := laid(head)
	var all []piece
	for _, body := range goodBodies {
		all = append(all, recordPiece(body))
		next := laid(head, all...)
		rows, was = append(rows, next[len(was):]), next
	}
	log := func(l ...string) string { return laid(head) + strings.Join(l, "") }
	for i := range len(rows) - 1 {
		begun := rows[:i:i]
		want := log(begun...)
		recoveredTo(t, fmt.Sprint("without record ", i), log(append(begun, rows[i+1:]...)...), i, want)
		recoveredTo(t, fmt.Sprint("record ", i, " and the next one swapped"), log(append(append(begun, rows[i+1], rows[i]), rows[i+2:]...)...), i, want)
		recoveredTo(t, fmt.Sprint("record ", i, " twice"), log(append(append(begun, rows[i], rows[i]), rows[i+1:]...)...), i+1, log(rows[:i+1]...))
	}
}

// TestRecordsBehindAnImage: P20.5: the same behind a head of kind 1.
func TestRecordsBehindAnImage(t *testing.T) {
	j := done(t, 4096, puts(5)...)
	marked(t, "five keys", j)
	log := string(j.Log())
	for _, body := range goodBodies {
		good, sum := recordPiece(body).row(lastWord(log))
		recovered(t, fmt.Sprintf("% x", body), log+good, 1)
		next, _ := recordPiece(body[:len(body)-1]).row(sum)
		k := recoveredTo(t, fmt.Sprintf("% x, then one that is too short", body), log+good+next, 1, log+good)
		c, _ := plainCommand(body)
		u := recovered(t, "the image", log, 0)
		u.Do(c)
		if state(u.Store()) != state(k.Store()) {
			t.Errorf("P20.5: % x: the store is another", body)
		}
		wantLog(t, "P20.5", u, log+good)
	}
}

// TestRecoverIsNew: P20.9, W3: the list that Recover is given is neither changed nor kept, nor the room behind it.
func TestRecoverIsNew(t *testing.T) {
	j := begin(t, 1<<16, longOvers()...)
	logs := []string{string(j.Log())} // heads alone too: behind them nothing is laid that would take the log elsewhere
	for _, c := range puts(20) {
		j.Do(c)
	}
	j.Do(api.Cmd{Op: api.OpRelease, Hs: []int{7, 8, 9}})
	logs = append(logs, string(j.Log()))
	marked(t, "20 keys", j)
	logs = append(logs, string(j.Log()))
	j.Do(api.Cmd{Op: api.OpPut, H: 1, Key: "z", Elem: "z"})
	for i, log := range append(logs, string(j.Log())) {
		for _, tail := range []string{"", "\x01\x02\x03", strings.Repeat("\x00", 400)} {
			room := []byte(log + tail + strings.Repeat("\x55", 600))
			was := string(room)
			k, n, e := journal.Recover(room[:len(log)+len(tail)])
			if want := []int{0, 22, 0, 1}[i]; k == nil || n != want || e != api.OK {
				t.Fatalf("P20.5: %d records, error %d, want %d records", n, e, want)
			}
			if string(room) != was {
				t.Fatal("W3: Recover has changed the list that it was given")
			}
			st := state(k.Store())
			scribble(room)
			wantLog(t, "W3: the list that Recover was given is written over", k, log)
			if state(k.Store()) != st {
				t.Fatal("W3: Recover has kept the list that it was given")
			}
			scribble(room)
			k.Do(api.Cmd{Op: api.OpNext, H: 1})
			k.Mark()
			if string(room) != was {
				t.Fatal("W3: what is done later changes the list that Recover was given")
			}
		}
	}
}
