package script_test

import (
	"fmt"
	"strings"
	"testing"

	"larder/api"
)

// spelling: of a field: one that is right, one that has not its form, one that is out of range (bytes never are).
var spelling = map[byte][3]string{
	'n': {"7", "x", "99999999999999999999"},
	'w': {"0x7", "-7", "0x99999999999999999"},
	'b': {"61", "6", ""},
}

const (
	right = iota
	noForm
	noRange
)

// around: lines ahead of one of that name, so that it may stand there; and such that it may not.
func around(name string) (fine, wrong []string) {
	switch name {
	case "limit":
		return []string{"", "\n# limit 6\n \n"}, []string{"limit 5\n", "limit 5\nhash 61 1\n", "limit 5\nlive\n"}
	case "hash":
		return []string{"limit 5\n", "limit 5\nhash 62 1\n\n"}, []string{"", "\n", "limit 5\nlive\n", "limit 5\nhash 61 1\nlen 1\n"}
	}
	return []string{"limit 5\n", "\nlimit 5\n#\nhash 61 1\n", "limit 5\nlive\nlen 1\n"}, []string{"", "# x\n"}
}

// kinds: the kinds of a form's fields, with so many numbers where any number may stand.
func kinds(form string, many int) string {
	return strings.Replace(form, "*", strings.Repeat("n", many), 1)
}

// spellings: all lists of fields of these kinds, each field right or wrong in one of the ways: and the error of the first that is wrong.
func spellings(kinds string, give func(fields []string, want api.Errno)) {
	ways := make([]int, len(kinds))
	for {
		fields, want, real := []string{}, api.OK, true
		for i, way := range ways {
			word := spelling[kinds[i]][way]
			fields, real = append(fields, word), real && word != ""
			if want == api.OK {
				want = [...]api.Errno{right: api.OK, noForm: api.ErrText, noRange: api.ErrRange}[way]
			}
		}
		if real {
			give(fields, want)
		}
		at := 0
		for at < len(ways) && ways[at] == noRange {
			ways[at] = right
			at++
		}
		if at == len(ways) {
			return
		}
		ways[at]++
	}
}

// TestFaults: each fault of a line alone, and any of them together: a wrong name, a line that can't stand there, a wrong number of fields, fields without their form and out of range, in every order.
func TestFaults(t *testing.T) {
	for name, form := range plainForms {
		for many := range 4 {
			if many > 0 && !strings.Contains(form, "*") {
				break
			}
			spellings(kinds(form, many), func(fields []string, want api.Errno) { faultsOf(t, name, form, fields, want) })
		}
	}
}

func faultsOf(t *testing.T, name, form string, fields []string, want api.Errno) {
	t.Helper()
	line := strings.Join(append([]string{name}, fields...), " ")
	fine, wrong := around(name)
	try := func(ahead, line string, want api.Errno) {
		t.Helper()
		number := strings.Count(ahead, "\n") + 1
		for _, behind := range []string{"", "\n", "\nlive", "\nnope\nlen 99999999999999999999\n"} {
			if want != api.OK {
				refuses(t, ahead+line+behind, number, want)
			} else if behind == "" || behind == "\n" {
				s, _, _ := plainParse(ahead + line + behind)
				reads(t, ahead+line+behind, s)
			}
		}
	}
	for _, ahead := range fine {
		try(ahead, line, want)
		for _, other := range []string{"nope", name + "x", strings.ToUpper(name), name[1:], "'" + name, name + "\r"} {
			try(ahead, other+line[len(name):], api.ErrText)
		}
		if !strings.HasSuffix(form, "*") {
			try(ahead, line+" 61", api.ErrText)
			try(ahead, line+" x", api.ErrText)
			try(ahead, line+" 99999999999999999999", api.ErrText)
		}
		least := len(strings.TrimSuffix(form, "*"))
		for n := range min(least, len(fields)) {
			try(ahead, strings.Join(append([]string{name}, fields[:n]...), " "), api.ErrText)
		}
	}
	for _, ahead := range wrong {
		try(ahead, line, api.ErrText)
		try(ahead, line+" 61", api.ErrText)
	}
}

// TestNames: no name but those of the table, and these as they are written there.
func TestNames(t *testing.T) {
	for _, name := range []string{
		"Limit", "limits", "limi", "l", "imit", "LEN", "Len", "lens", "le", "en", "leng", "get1", "has", "set", "del", "drop", "free", "stat", "all", "dump", "error", "yes", "live#", "-", "'live", "0", "1", "live\x00", "\xef\xbb\xbflive", "lïve", "audit\r",
	} {
		for fields := range 5 {
			line := name + strings.Repeat(" 61", fields)
			refuses(t, "limit 5\n"+line, 2, api.ErrText)
			refuses(t, line, 1, api.ErrText)
		}
	}
}

// TestNumberOfFields: of every line, from none to twelve.
func TestNumberOfFields(t *testing.T) {
	for name, form := range plainForms {
		fine, _ := around(name)
		for n := range 13 {
			fields := strings.Repeat(" 61", n)
			least := len(strings.TrimSuffix(form, "*"))
			if n == least || n > least && strings.HasSuffix(form, "*") {
				s, line, e := plainParse(fine[0] + name + fields)
				if line != 0 || e != api.OK {
					t.Fatalf("%s: no script of the test: %d", name, e)
				}
				reads(t, fine[0]+name+fields, s)
			} else {
				refuses(t, fine[0]+name+fields, strings.Count(fine[0], "\n")+1, api.ErrText)
			}
		}
	}
}

// TestManyNumbers: where any number of numbers may stand, the first that is wrong tells the error.
func TestManyNumbers(t *testing.T) {
	const far = "99999999999999999999"
	for _, name := range []string{"make 1 2", "release"} {
		for n := range 9 {
			for at := range n {
				numbers := strings.Fields(strings.Repeat("5 ", n))
				for i := at; i < n; i++ {
					numbers[i] = "x"
				}
				numbers[at] = far
				refuses(t, fmt.Sprintf("limit 5\n%s %s", name, strings.Join(numbers, " ")), 2, api.ErrRange)
				for i := at; i < n; i++ {
					numbers[i] = far
				}
				numbers[at] = "x"
				refuses(t, fmt.Sprintf("limit 5\n%s %s", name, strings.Join(numbers, " ")), 2, api.ErrText)
			}
		}
	}
}
