package lang_test

import (
	"reflect"
	"slices"
	"strings"
	"testing"

	"larder/api"
	"larder/lang"
)

// spread: the tokens with a blank between each two, but with that one ahead of the token at that place (or of the end).
func spread(tokens []string, at int, blank string) string {
	var text strings.Builder
	for i := range len(tokens) + 1 {
		switch {
		case i == at:
			text.WriteString(blank)
		case i > 0 && i < len(tokens):
			text.WriteByte(' ')
		}
		if i < len(tokens) {
			text.WriteString(tokens[i])
		}
	}
	return text.String()
}

// separates: are the tokens at that place still two, with this between them?
func separates(tokens []string, at int, blank string) bool {
	switch {
	case at == 0:
		return true
	case at == len(tokens):
		return stays(tokens[at-1], blank)
	}
	l := plainTokens(tokens[at-1] + blank + tokens[at])
	return len(l) == 3 && l[0].text == tokens[at-1] && l[1].text == tokens[at]
}

// unchanged: P23.5: blanks and remarks more or less at each place change nothing but the line of a fault.
func unchanged(t *testing.T, tokens []string, blanks []string) {
	t.Helper()
	p, _, e := lang.Parse(strings.Join(tokens, " "))
	place := 0 // of the fault
	if e != api.OK {
		_, place, _ = lang.Parse(lines(tokens) + "\n")
	}
	for at := range len(tokens) + 1 {
		for _, blank := range blanks {
			if !separates(tokens, at, blank) {
				continue
			}
			text := spread(tokens, at, blank)
			line := 0
			if e != api.OK {
				line = 1
				if at <= place-1 {
					line += strings.Count(blank, "\n")
				}
			}
			if q, got, f := lang.Parse(text); f != e || got != line || !reflect.DeepEqual(p, q) {
				t.Errorf("P23.5: %q: line %d, error %d, want line %d, error %d and the same program", short(text), got, f, line, e)
			}
		}
	}
}

// TestBlanks: between each two tokens of the samples and of drawn programs, and of texts with a fault: nothing, each blank, and remarks.
func TestBlanks(t *testing.T) {
	blanks := append([]string{"", " ", "\t", "\r", "\n", "\r\n\t ", "//\n", " // ; } \" \\ // \xff\x00\r\n", "//x\n//y\n\n", " //\r\n"}, someBlanks...)
	for _, text := range samples {
		unchanged(t, strings.Fields(text), blanks)
	}
	d := draws(2308)
	for range 100 {
		tokens := d.tokens(d.prog())
		if len(tokens) > 80 {
			tokens = tokens[:80]
		}
		unchanged(t, tokens, blanks)
		if len(tokens) > 0 {
			at := d.Intn(len(tokens))
			unchanged(t, slices.Insert(slices.Clone(tokens), at, pick(d, spellings)), blanks)
		}
	}
	for _, text := range []string{"& ;", "$ $", "print 1 $ 2 ;", "x = 9223372036854775808 ;", "x = 1 / / 2 ;", "map map", "print 1 < 2 < 3 ;"} {
		unchanged(t, strings.Fields(text), blanks)
	}
}

// TestBlanksEverywhere: blanks and remarks at all places at once.
func TestBlanksEverywhere(t *testing.T) {
	d := draws(2309)
	for range 500 {
		p := d.prog()
		tokens := d.tokens(p)
		if len(tokens) > api.MaxTokens {
			continue
		}
		for range 3 {
			reads(t, pick(d, someBlanks)+d.joined(tokens)+pick(d, someBlanks), p)
		}
		for _, blank := range someBlanks {
			reads(t, strings.Join(tokens, " "+blank), p)
		}
	}
}

// TestOtherBytesAreNoBlanks: form feeds, vertical tabs, zero bytes, and the blanks of other alphabets.
func TestOtherBytesAreNoBlanks(t *testing.T) {
	for _, odd := range []string{"\v", "\f", "\x00", "\b", "\x1a", "\x1c", "\x85", "\xa0", "\u00a0", "\u0085", "\u2028", "\u3000", "\ufeff"} {
		refuses(t, "\n"+odd, 2, api.ErrSyntax)
		refuses(t, "x\n"+odd+" = 1;", 2, api.ErrSyntax)
		refuses(t, "x = 1;\n"+odd+"\n", 2, api.ErrSyntax)
		reads(t, "x = 1; // "+odd+"\n", api.Prog{Stmts: block(set("x", num(1)))})
		refuses(t, "x = 1; // "+odd+"\n$", 2, api.ErrSyntax)
	}
}

// TestBlanksPart: where two tokens would be one without a blank, or one is two with it, the text is another.
func TestBlanksPart(t *testing.T) {
	for whole, parted := range map[string]string{
		"x = a == b;": "x = a = = b;", "x = a != b;": "x = a ! = b;", "x = a <= b;": "x = a < = b;", "x = a >= b;": "x = a > = b;", "x = a && b;": "x = a & & b;", "x = a || b;": "x = a | | b;",
		"print a;": "printa;", "clear m;": "clearm;", "x = has m[1];": "x = hasm 1];", "while a { }": "whilea { }", "for k, v in m { }": "for k, v inm { }", "if a { } else if b { }": "if a { } elseif b { }",
		"x = 12;": "x = 1 2;", "xy = 1;": "x y = 1;", "print 1;": "pri nt 1;", "x1 = 1;": "x 1 = 1;",
	} {
		parsed(t, whole)
		refuses(t, parted, 1, api.ErrSyntax)
	}
	reads(t, "x = len m;", api.Prog{Stmts: block(set("x", length("m")))})
	reads(t, "x = lenm;", api.Prog{Stmts: block(set("x", name("lenm")))})
}
