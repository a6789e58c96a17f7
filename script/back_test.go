package script_test

import (
	"strings"
	"testing"

	"larder/api"
	"larder/script"
)

// thereAndBack: the script's text is read as the script.
func thereAndBack(t *testing.T, s api.Script) {
	t.Helper()
	text := script.Print(s)
	got, line, e := script.Parse(text)
	if line != 0 || e != api.OK || !same(got, s) {
		t.Fatalf("P16.3: Parse(%q) = %+v, line %d, error %d, want %+v", short(text), got, line, e, s)
	}
	if again := script.Print(got); again != text {
		t.Fatalf("P16.3: Print of what is read of %q = %q", short(text), short(again))
	}
}

func TestThereAndBack(t *testing.T) {
	d := draws(163)
	for range rounds {
		thereAndBack(t, d.script())
	}
	for op := firstOp; op <= lastOp; op++ {
		thereAndBack(t, api.Script{Cmds: []api.Cmd{{Op: op}}})
		for range 500 {
			thereAndBack(t, api.Script{Limit: d.number(), Cmds: []api.Cmd{used(d.command(op)), used(d.command(op))}})
		}
	}
	thereAndBack(t, api.Script{})
	thereAndBack(t, api.Script{Over: []api.Over{}, Cmds: []api.Cmd{{Op: api.OpMake, Fields: []int{}}, {Op: api.OpRelease, Hs: []int{}}}})
}

// TestReadPrintedRead: what is read of a text is printed and read again as the same.
func TestReadPrintedRead(t *testing.T) {
	d := draws(1630)
	for range rounds {
		text := d.spelt(d.script())
		if d.Intn(2) == 0 {
			text = d.spoilt(text)
		}
		if s, _, e := script.Parse(text); e == api.OK {
			thereAndBack(t, s)
		}
	}
	for _, text := range []string{"limit -0", "limit 007", "limit 5\nget 1 '-", "limit 5\nget 1 '61", "limit 5\nget 1 ''", "limit 5\nput -0 'a\r\xff\x00 -", "limit 5\nopen 1 18446744073709551615 0x00F"} {
		s, line, e := script.Parse(text)
		if line != 0 || e != api.OK {
			t.Fatalf("P16.1: Parse(%q) = line %d, error %d", text, line, e)
		}
		thereAndBack(t, s)
	}
}

// TestUnusedAreLetGo: what lies in fields that an Op does not use is zero when the text is read again; commands without a line are gone.
func TestUnusedAreLetGo(t *testing.T) {
	d := draws(1631)
	for range rounds / 4 {
		s := d.anyScript()
		want := api.Script{Limit: s.Limit, Over: s.Over}
		for _, c := range s.Cmds {
			if c.Op >= firstOp && c.Op <= lastOp {
				want.Cmds = append(want.Cmds, used(c))
			}
		}
		if got, line, e := script.Parse(script.Print(s)); line != 0 || e != api.OK || !same(got, want) {
			t.Fatalf("P16.3: Parse(Print(%+v)) = %+v, line %d, error %d", s, got, line, e)
		}
	}
}

// TestLongestThereAndBack: a text of just MaxText bytes is read again, one that has grown beyond that is not.
func TestLongestThereAndBack(t *testing.T) {
	const most = 1048576
	key := strings.Repeat("k", (most-len("limit 10\nget 1 \n"))/2)
	s := api.Script{Limit: 10, Cmds: []api.Cmd{{Op: api.OpGet, H: 1, Key: key}}}
	if n := len(script.Print(s)); n != most {
		t.Fatalf("P16.2: %d bytes, want %d", n, most)
	}
	thereAndBack(t, s)
	s.Cmds[0].H = 10
	refuses(t, script.Print(s), 0, api.ErrText)

	s, line, e := script.Parse("limit 5\nget 1 '" + strings.Repeat("k", most-15))
	if line != 0 || e != api.OK {
		t.Fatalf("P16.1: a text of MaxText bytes: line %d, error %d", line, e)
	}
	printed := script.Print(s)
	if want := "limit 5\nget 1 " + strings.Repeat("6b", most-15) + "\n"; printed != want {
		t.Errorf("P16.2: a script whose text grows: %q", short(printed))
	}
	refuses(t, printed, 0, api.ErrText)
}
