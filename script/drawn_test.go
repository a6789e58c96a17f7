package script_test

import (
	"strings"
	"testing"

	"larder/api"
	"larder/script"
)

// asTheChapter: the text is read as the chapter says, put down once more in plain_test.go.
func asTheChapter(t *testing.T, text string) (api.Script, bool) {
	t.Helper()
	s, line, e := script.Parse(text)
	want, wantLine, wantErr := plainParse(text)
	if line != wantLine || e != wantErr || !same(s, want) {
		t.Fatalf("P16.1: Parse(%q) = %+v, line %d, error %d, want %+v, line %d, error %d", text, s, line, e, want, wantLine, wantErr)
	}
	return s, e == api.OK
}

// spoilt: the text with some bytes changed, taken out or put in, or with some words changed or exchanged.
func (d drawer) spoilt(text string) string {
	for range 1 + d.Intn(3) {
		if text == "" {
			return text
		}
		at := d.Intn(len(text))
		piece := d.oneOf(" ", "\t", "\n", "#", "'", "-", "0", "9", "a", "F", "g", "x", "0x", "\r", "\x00", "\xff", "é", " 5", " x", "len", "limit ", "99999999999999999999", string([]byte{byte(d.Intn(256))}))
		switch d.Intn(5) {
		case 0:
			text = text[:at] + text[at+1:]
		case 1:
			text = text[:at] + piece + text[at:]
		case 2:
			text = text[:at] + piece + text[at+1:]
		case 3:
			words := strings.SplitAfter(text, " ")
			words[d.Intn(len(words))] = piece + d.oneOf(" ", "", "\n")
			text = strings.Join(words, "")
		case 4:
			lines := strings.SplitAfter(text, "\n")
			i, j := d.Intn(len(lines)), d.Intn(len(lines))
			lines[i], lines[j] = lines[j], lines[i]
			text = strings.Join(lines, "")
		}
	}
	return text
}

// noise: words of all kinds, in any order.
func (d drawer) noise() string {
	var text strings.Builder
	for range d.Intn(30) {
		text.WriteString(d.oneOf("limit", "hash", "make", "get", "put", "delete", "len", "clear", "clone", "open", "next", "release", "live", "probes", "slots", "audit",
			"limit 5\n", "0", "1", "-1", "61", "'a", "-", "#", "0x1", "x", "99999999999999999999", "\r", "\n", "\n", "\xff"))
		text.WriteString(d.oneOf(" ", " ", "\t", "\n", "\n", ""))
	}
	return text.String()
}

// bytesOnly: any bytes, most of them those that count.
func (d drawer) bytesOnly() string {
	const those = " \t\n#'-+0123456789abcdefABCDEFxXlimthsgepr\r"
	b := make([]byte, d.Intn(60))
	for i := range b {
		b[i] = byte(d.Intn(256))
		if d.Intn(3) > 0 {
			b[i] = those[d.Intn(len(those))]
		}
	}
	return string(b)
}

const rounds = 20000

func TestDrawnTexts(t *testing.T) {
	d := draws(161)
	read, refused := 0, map[api.Errno]int{}
	for range rounds {
		s := d.script()
		text := d.spelt(s)
		if got, ok := asTheChapter(t, text); !ok || !same(got, s) {
			t.Fatalf("P16.1: Parse(%q) = %+v, want %+v", text, got, s)
		}
		spoilt := d.spoilt(text)
		if _, ok := asTheChapter(t, spoilt); ok {
			read++
		} else {
			_, _, e := script.Parse(spoilt)
			refused[e]++
		}
		asTheChapter(t, d.noise())
		asTheChapter(t, d.bytesOnly())
		asTheChapter(t, "limit 5\n"+d.noise())
		asTheChapter(t, "limit 5\n"+d.bytesOnly())
	}
	if read < 100 || refused[api.ErrText] < 100 || refused[api.ErrRange] < 100 {
		t.Errorf("the test draws too little: %d texts read, %v refused", read, refused)
	}
}

func TestDrawnScripts(t *testing.T) {
	d := draws(162)
	for range rounds {
		s := d.anyScript()
		if got, want := script.Print(s), plainPrint(s); got != want {
			t.Fatalf("P16.2: Print(%+v) = %q, want %q", s, got, want)
		}
	}
}

func TestDrawnAnswers(t *testing.T) {
	d := draws(164)
	for range rounds {
		a := d.answer(d.op())
		line := script.Show(a)
		if want := plainShow(a); line != want {
			t.Fatalf("P16.4: Show(%+v) = %q, want %q", a, line, want)
		}
		back, e := script.Read(line)
		if back != told(a) || e != api.OK {
			t.Fatalf("P16.5: Read(%q) = %+v, error %d, want %+v", line, back, e, told(a))
		}
		asAnAnswer(t, d.spoilt(line))
	}
}
