package lang_test

import (
	"slices"
	"strings"
	"testing"

	"larder/api"
)

// spellings: a token of each class: the words and the marks, a name, a number, one that is out of range, an odd one.
var spellings = slices.Concat(wordList, markList, []string{"x", "12", "9223372036854775808", "&", "$"})

// spelled: how a token of that class may be written.
func spelled(class string) string {
	switch class {
	case nameClass:
		return "a"
	case numberClass:
		return "12"
	}
	return class
}

// lines: the tokens, each on a line of its own, so that the line tells the token.
func lines(tokens []string) string { return strings.Join(tokens, "\n") }

// goOn: behind these tokens, with which a program goes on, each token at all, and the end: is it answered as the chapter says? And so on behind each with which one goes on, so many tokens far.
func goOn(t *testing.T, tokens []string, far int) (count int) {
	t.Helper()
	asPlain(t, lines(tokens))
	if far == 0 {
		return 1
	}
	l := newLooker()
	for _, k := range tokens {
		l, _ = l.take(classOf(k))
	}
	for _, k := range spellings {
		next := append(slices.Clip(tokens), k)
		_, fine := l.take(classOf(k))
		switch {
		case !fine:
			refuses(t, lines(next), len(next), api.ErrSyntax)
		case len(k) == 19: // the great one
			refuses(t, lines(next), len(next), api.ErrRange)
		default:
			count += goOn(t, next, far-1)
		}
	}
	return count
}

// TestEachGoingOn: all rows of a few tokens with which a program can begin, and behind them each token.
func TestEachGoingOn(t *testing.T) {
	if n := goOn(t, nil, 5); n < 5000 {
		t.Errorf("only %d rows of tokens were tried", n)
	}
}

// TestGoingOnWithin: the same behind beginnings that lead into each rule of the grammar.
func TestGoingOnWithin(t *testing.T) {
	for _, text := range []string{
		"map m ;", "map m ; map", "x = 1 ;", "m [ 1 ] = 2", "delete m [ 1 ]", "clear m", "print 1 ,", "print ( 1", "print - !", "print ( ( 1 ) + 2 )",
		"if 1 { } else", "if 1 { } else if 2 { } else", "if 1 { } else { }", "if 1 { } else if 2 { }", "if 1 { } else { x = 1 ; }", "while 1 {", "while 1 { }", "while 1 { while 2 { } if 3 { }", "for k , v in m {", "for k , v in m { break ; }",
		"print 1 < 2", "print 1 == 2 + 3", "print 1 < 2 && 3 > 4", "print 1 < 2 || 3", "print ( 1 < 2 ) <", "print 1 <", "print a [ 1 < 2", "print has m [ 1 ]", "print len m", "print 1 * - 2", "print 1 != 2 * 3 - 4 % 5",
	} {
		goOn(t, strings.Fields(text), 3)
	}
}

// samples: texts in which each of the grammar's ways stands.
var samples = []string{
	"", "map m ;", "map m ; map n ; x = 1 ;", "x = 1 ; y = 2 ;", "m [ 1 ] = 2 ;", "delete m [ 1 ] ;", "clear m ;", "print ;", "print 1 ;", "print 1 , 2 ;", "print 1 , 2 , 3 ;",
	"if 1 { }", "if 1 { x = 1 ; y = 2 ; }", "if 1 { } else { }", "if 1 { x = 1 ; } else { y = 2 ; }", "if 1 { } else if 2 { }", "if 1 { } else if 2 { } else { }", "if 1 { } else if 2 { } else if 3 { print ; } else { clear m ; }",
	"while 1 { }", "while 1 { break ; continue ; }", "for k , v in m { }", "for k , v in m { delete m [ k ] ; }", "break ;", "continue ;",
	"x = 1 || 2 || 3 ;", "x = 1 && 2 && 3 ;", "x = 1 == 2 ;", "x = 1 != 2 ;", "x = 1 < 2 ;", "x = 1 <= 2 ;", "x = 1 > 2 ;", "x = 1 >= 2 ;", "x = 1 + 2 - 3 ;", "x = 1 * 2 / 3 % 4 ;", "x = - 1 ;", "x = ! - ! 1 ;",
	"x = y ;", "x = m [ y ] ;", "x = has m [ y ] ;", "x = len m ;", "x = ( y ) ;", "x = ( 1 + 2 ) * ( ( 3 ) ) ;", "x = 1 || 2 && 3 == 4 + 5 * - 6 ;", "x = ( ( ( ( 1 || 2 ) && 3 ) == 4 ) + 5 ) * - 6 ;", "x = m [ m [ m [ 1 ] ] ] ;", "if has m [ k ] && len m < x { while ! x { for k , v in m { } } }",
}

// waysTaken: the ways that a text's tokens have led to their end.
func waysTaken(text string) map[int]bool {
	taken := map[int]bool{}
	l := newLooker()
	for i := 0; ; i++ {
		for _, s := range l.rows[len(l.rows)-1] {
			if s.done == len(ways[s.way].parts) {
				taken[s.way] = true
			}
		}
		tokens := plainTokens(text)
		if tokens[i].class == endClass {
			return taken
		}
		l, _ = l.take(tokens[i].class)
	}
}

// TestEachRule: there is a sample for each of the grammar's ways, and each sample is a program.
func TestEachRule(t *testing.T) {
	taken := map[int]bool{}
	for _, text := range samples {
		if !asPlain(t, lines(strings.Fields(text))) {
			t.Errorf("P23.1: the sample is refused: %s", text)
		}
		for w := range waysTaken(text) {
			taken[w] = true
		}
	}
	for w := range ways {
		if !taken[w] {
			t.Errorf("no sample has %v", ways[w])
		}
	}
}

// TestPartsLeftOut: each run of a sample's tokens left out; each token twice; each two beside one another the other way round.
func TestPartsLeftOut(t *testing.T) {
	for _, text := range samples {
		tokens := strings.Fields(text)
		for from := range tokens {
			for to := from + 1; to <= len(tokens); to++ {
				asPlain(t, lines(slices.Concat(tokens[:from], tokens[to:])))
			}
			asPlain(t, lines(slices.Insert(slices.Clone(tokens), from, tokens[from])))
			if from > 0 {
				turned := slices.Clone(tokens)
				turned[from-1], turned[from] = turned[from], turned[from-1]
				asPlain(t, lines(turned))
			}
		}
	}
}

// TestOtherParts: each token at all in the place of each token of a sample, and ahead of it.
func TestOtherParts(t *testing.T) {
	for _, text := range samples {
		tokens := strings.Fields(text)
		for at := range len(tokens) + 1 {
			for _, k := range spellings {
				asPlain(t, lines(slices.Insert(slices.Clone(tokens), at, k)))
				if at < len(tokens) {
					asPlain(t, lines(slices.Concat(tokens[:at], []string{k}, tokens[at+1:])))
				}
			}
		}
	}
}

// TestFirstFault: of several faults the first one counts, of whatever kind it and the others are.
func TestFirstFault(t *testing.T) {
	faults := map[string]api.Errno{"$": api.ErrSyntax, ")": api.ErrSyntax, "map": api.ErrSyntax, "1 2": api.ErrSyntax, "1 < 2 < 3": api.ErrSyntax, "9223372036854775808": api.ErrRange, "": api.ErrSyntax}
	const around = "x = \n|;\ny = \n|;\nz = "
	for a, e := range faults {
		for b := range faults {
			text := strings.Replace(strings.Replace(around, "|", a, 1), "|", b, 1)
			refuses(t, text, 2, e)
			refuses(t, strings.Replace(strings.Replace(around, "|", "7", 1), "|", a, 1)+b, 4, e)
		}
	}
	refuses(t, "x = 9223372036854775808\n9223372036854775808;", 1, api.ErrRange)
	refuses(t, "9223372036854775808;\nx = 9223372036854775808", 1, api.ErrSyntax)
	refuses(t, "x = 1;\n\nmap m;\n$", 3, api.ErrSyntax)
	refuses(t, "while 1 {\nmap m; }", 2, api.ErrSyntax)
}

// TestCutOff: a text that ends behind any of its tokens has its fault at the end, or it is a program.
func TestCutOff(t *testing.T) {
	d := draws(2301)
	for range 60 {
		tokens := d.tokens(d.prog())
		whole := 0
		for n := range min(len(tokens), 120) + 1 {
			text := lines(tokens[:n]) + "\n\n"
			line, e := plainFault(text)
			if e == api.OK {
				whole++
				asPlain(t, text)
			} else if refuses(t, text, line, e); line != max(n, 1)+2 {
				t.Fatalf("the test's own reader tells line %d of %q", line, text)
			}
		}
		if whole == 0 {
			t.Errorf("no tokens at all are no program")
		}
	}
}

// TestDrawnFaults: drawn programs with a few tokens left out, put in and changed.
func TestDrawnFaults(t *testing.T) {
	d := draws(2302)
	refused := 0
	for range 3000 {
		tokens := d.tokens(d.prog())
		if len(tokens) > 150 {
			tokens = tokens[:150]
		}
		for range d.Intn(3) {
			at := d.Intn(len(tokens) + 1)
			switch d.Intn(3) {
			case 0:
				tokens = slices.Insert(tokens, at, pick(d, spellings))
			case 1:
				if at < len(tokens) {
					tokens[at] = pick(d, spellings)
				}
			default:
				tokens = slices.Delete(tokens, at, min(at+1, len(tokens)))
			}
		}
		if !asPlain(t, d.joined(tokens)) {
			refused++
		}
	}
	if refused < 300 || refused > 2700 {
		t.Errorf("of 3000 texts %d were refused: too few of one kind", refused)
	}
}

// TestSoup: drawn rows of tokens.
func TestSoup(t *testing.T) {
	d := draws(2303)
	for range 20000 {
		var tokens []string
		for range d.Intn(9) {
			tokens = append(tokens, pick(d, spellings))
		}
		asPlain(t, d.joined(tokens))
	}
}
