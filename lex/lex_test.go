package lex_test

import (
	"regexp"
	"slices"
	"strings"
	"testing"

	"topiarist/api"
	"topiarist/lex"
)

const (
	letters = "abcdefghijklmnopqrstuvwxyzABCDEFGHIJKLMNOPQRSTUVWXYZ"
	digits  = "0123456789"
	// quotable is each byte from 20 to 7e (hexadecimal) but the quote sign.
	quotable = " !\"#$%&()*+,-./" + digits + ":;<=>?@ABCDEFGHIJKLMNOPQRSTUVWXYZ[\\]^_`abcdefghijklmnopqrstuvwxyz{|}~"
)

func named(text string, at int) api.Token  { return api.Token{Kind: api.Name, Text: text, At: at} }
func quoted(text string, at int) api.Token { return api.Token{Kind: api.Quote, Text: text, At: at} }
func is(at int) api.Token                  { return api.Token{Kind: api.Is, Text: "=", At: at} }
func bar(at int) api.Token                 { return api.Token{Kind: api.Bar, Text: "|", At: at} }
func end(at int) api.Token                 { return api.Token{Kind: api.End, Text: ";", At: at} }

func wantTokens(t *testing.T, s string, want ...api.Token) {
	t.Helper()
	l, f := lex.Tokens(s)
	if f != (api.Fault{}) || !slices.Equal(l, want) {
		t.Errorf("Tokens(%q) = %v, %v; want %v", s, l, f, want)
	}
}

func wantFault(t *testing.T, s string, want api.Fault) {
	t.Helper()
	l, f := lex.Tokens(s)
	if f != want || len(l) != 0 {
		t.Errorf("Tokens(%q) = %v, %v; want the fault %v alone", s, l, f, want)
	}
}

func wantLex(t *testing.T, s string, at int) {
	t.Helper()
	wantFault(t, s, api.Fault{E: api.ErrLex, At: at})
}

// P1.1: ordinary texts.
func TestTokensOfOrdinaryTexts(t *testing.T) {
	wantTokens(t, "a='b';", named("a", 0), is(1), quoted("b", 2), end(5))
	wantTokens(t, "S = '(' S ')' | ;",
		named("S", 0), is(2), quoted("(", 4), named("S", 8), quoted(")", 10), bar(14), end(16))
	wantTokens(t, "Sum\t=\n Sum '+' x_1 # a sum\n | x_1;\n",
		named("Sum", 0), is(4), named("Sum", 7), quoted("+", 11), named("x_1", 15), bar(28), named("x_1", 30), end(33))
}

// P1.1: what is one token by itself is one beside others too, in any order: order is not lex's concern.
func TestTokensNeedNothingBetween(t *testing.T) {
	wantTokens(t, ";|==|;", end(0), bar(1), is(2), is(3), bar(4), end(5))
	wantTokens(t, "a'b'c", named("a", 0), quoted("b", 1), named("c", 4))
	wantTokens(t, "'a''b'", quoted("a", 0), quoted("b", 3))
	wantTokens(t, "a=b|c;", named("a", 0), is(1), named("b", 2), bar(3), named("c", 4), end(5))
	wantTokens(t, "a#b\nc", named("a", 0), named("c", 4))
}

// P1.1: texts of no token.
func TestTokensOfNothing(t *testing.T) {
	for _, s := range []string{"", " ", "\t", "\n", " \t\n\n\t ", "#", "##", "# note", "# note\n", "#a\n#b\n", "#\n \t#"} {
		wantTokens(t, s)
	}
}

// P1.1: a note goes up to a newline, or the end, whatever stands in it.
func TestNotes(t *testing.T) {
	wantTokens(t, "a # note", named("a", 0))
	wantTokens(t, "# note\na", named("a", 7))
	wantTokens(t, "#\na", named("a", 2))
	wantTokens(t, "#''( \r\x00\x7f\xff 'abc # ;\n=", is(19))
	wantTokens(t, "=#''( \r\x00\x7f\xff 'abc # ;", is(0))
	wantTokens(t, "'a#b'", quoted("a#b", 0))
	wantLex(t, "# note\r(\n(", 9)
}

// P1.1: a name is as long as it can be, and has at most MaxName bytes.
func TestNames(t *testing.T) {
	longest := "Z" + strings.Repeat("9", api.MaxName-2) + "_"
	wantTokens(t, longest, named(longest, 0))
	wantTokens(t, " "+longest+"="+longest, named(longest, 1), is(1+api.MaxName), named(longest, 2+api.MaxName))
	wantTokens(t, "a9_b", named("a9_b", 0))
	wantLex(t, longest+"a", 0)
	wantLex(t, longest+"9", 0)
	wantLex(t, longest+"_", 0)
	wantLex(t, "a = "+longest+"a ;", 4)
	wantLex(t, "a "+strings.Repeat("b", api.MaxText-2), 2)
}

// P1.1: a quote has 1 to MaxName bytes from 20 to 7e.
func TestQuotes(t *testing.T) {
	longest := "~" + strings.Repeat(" ", api.MaxName-2) + "#"
	wantTokens(t, "'"+longest+"'", quoted(longest, 0))
	wantTokens(t, "'"+longest+"';", quoted(longest, 0), end(api.MaxName+2))
	wantLex(t, "'"+longest+"!'", 0)
	wantLex(t, "= '"+longest+"!'", 2)
	wantLex(t, "''", 0)
	wantLex(t, "a = '' ;", 4)
	wantLex(t, "'a'''b'", 3)
	wantLex(t, "'", 0)
	wantLex(t, "a'", 1)
	wantLex(t, "'a", 0)
	wantLex(t, "'a' 'b", 4)
	wantLex(t, "'a' b'", 5)
	wantLex(t, "'a\n'", 0)
	wantLex(t, "'a\t'", 0)
	wantLex(t, "; 'a\x1f'", 2)
	wantLex(t, "; 'a\x7f'", 2)
	wantLex(t, "; '\x80'", 2)
	wantLex(t, "; '\x00'", 2)
}

// P1.1: the fault is the first one, and no token stands beside it.
func TestFirstFault(t *testing.T) {
	wantLex(t, "a='b';(", 6)
	wantLex(t, "( '' 9", 0)
	wantLex(t, "a '' (", 2)
	wantLex(t, "a 9a", 2)
	wantLex(t, "a _b", 2)
	wantLex(t, "a\r\n", 1)
	wantLex(t, "a\v", 1)
	wantLex(t, "a\u00a0b", 1)
	wantLex(t, "a\u00e9", 1)
	wantLex(t, "\ufeffa", 0)
	wantLex(t, "# note\n(", 7)
}

// P1.1: a text has at most MaxText bytes, and that is looked at ahead of all else.
func TestLargeTexts(t *testing.T) {
	tooLarge := api.Fault{E: api.ErrLarge}
	want := make([]api.Token, api.MaxText)
	for i := range want {
		want[i] = is(i)
	}
	wantTokens(t, strings.Repeat("=", api.MaxText), want...)
	wantTokens(t, strings.Repeat(" ", api.MaxText))
	wantTokens(t, strings.Repeat("#", api.MaxText))
	wantTokens(t, strings.Repeat(" ", api.MaxText-1)+";", end(api.MaxText-1))
	wantLex(t, strings.Repeat(" ", api.MaxText-1)+"(", api.MaxText-1)
	for _, c := range []string{"=", " ", "#", "a", "'", "(", "\xff"} {
		wantFault(t, strings.Repeat(c, api.MaxText+1), tooLarge)
	}
	wantFault(t, strings.Repeat("a='b';\n", api.MaxText), tooLarge)
}

// P1.1: what each byte is, alone and inside a quote.
func TestEachByteAlone(t *testing.T) {
	for i := range 256 {
		s := string([]byte{byte(i)})
		switch {
		case strings.Contains(letters, s):
			wantTokens(t, s, named(s, 0))
		case s == "=":
			wantTokens(t, s, is(0))
		case s == "|":
			wantTokens(t, s, bar(0))
		case s == ";":
			wantTokens(t, s, end(0))
		case strings.Contains(" \t\n#", s):
			wantTokens(t, s)
		default:
			wantLex(t, s, 0)
		}
		if strings.Contains(quotable, s) {
			wantTokens(t, "'"+s+"'", quoted(s, 0))
		} else {
			wantLex(t, "'"+s+"'", 0)
		}
	}
}

// Rule 2 of the document: answers share no memory.
func TestAnswersAreNew(t *testing.T) {
	a, _ := lex.Tokens("a = b ;")
	b, _ := lex.Tokens("a = b ;")
	clear(a[:cap(a)])
	if want := []api.Token{named("a", 0), is(2), named("b", 4), end(6)}; !slices.Equal(b, want) {
		t.Errorf("a change of one answer made another one %v", b)
	}
}

// P1.2: which bytes may stand where.
func TestEachByteOfNamesAndTerms(t *testing.T) {
	for i := range 256 {
		s := string([]byte{byte(i)})
		first := strings.Contains(letters, s)
		later := strings.Contains(letters+digits+"_", s)
		inside := strings.Contains(quotable, s)
		if got := lex.IsName(s); got != first {
			t.Errorf("IsName(%q) = %v", s, got)
		}
		if got := lex.IsName("a" + s); got != later {
			t.Errorf("IsName(%q) = %v", "a"+s, got)
		}
		if got := lex.IsName("a" + s + "b"); got != later {
			t.Errorf("IsName(%q) = %v", "a"+s+"b", got)
		}
		for _, x := range []string{s, "a" + s, s + "a", " " + s + "~"} {
			if got := lex.IsTerm(x); got != inside {
				t.Errorf("IsTerm(%q) = %v", x, got)
			}
		}
	}
}

// P1.2: how long names and terms may be.
func TestLengthsOfNamesAndTerms(t *testing.T) {
	for n := range 3 * api.MaxName {
		want := 1 <= n && n <= api.MaxName
		if got := lex.IsName(strings.Repeat("x", n)); got != want {
			t.Errorf("IsName of %d letters = %v", n, got)
		}
		if got := lex.IsTerm(strings.Repeat(" ", n)); got != want {
			t.Errorf("IsTerm of %d blanks = %v", n, got)
		}
	}
	if huge := strings.Repeat("x", 1<<20); lex.IsName(huge) || lex.IsTerm(huge) {
		t.Error("a huge text is a name or a term")
	}
}

// P1.2: names and terms are just what Tokens tells as such.
func TestNamesAndTermsAreTokens(t *testing.T) {
	eachText("a9_' #\n=\xff", 4, func(s string) {
		l, f := lex.Tokens(s)
		alone := f.E == api.OK && slices.Equal(l, []api.Token{named(s, 0)})
		if lex.IsName(s) != alone {
			t.Errorf("IsName(%q) = %v, but as a text it is %v, %v", s, !alone, l, f)
		}
		l, f = lex.Tokens("'" + s + "'")
		alone = f.E == api.OK && slices.Equal(l, []api.Token{quoted(s, 0)})
		if lex.IsTerm(s) != alone {
			t.Errorf("IsTerm(%q) = %v, but in quotes it is %v, %v", s, !alone, l, f)
		}
	})
}

// P1.1, P1.3: all short texts, held against the chapter's words written as patterns.
func TestAllShortTexts(t *testing.T) {
	eachText("aZ9_'=|; #\n(", 4, func(s string) {
		l, f := byPatterns(s)
		if f != (api.Fault{}) {
			wantFault(t, s, f)
			return
		}
		wantTokens(t, s, l...)
		wantApart(t, s)
	})
}

// P1.3: of longer texts, too, each token lies behind the one ahead of it.
func TestTokensDoNotOverlap(t *testing.T) {
	name := strings.Repeat("n", api.MaxName)
	term := strings.Repeat("=", api.MaxName)
	for _, s := range []string{
		"S = S S | 'a' ;",
		"S = 'a''b''c' | 'a' 'b' 'c';#S",
		name + "='" + term + "'" + name + "|" + name + "'" + term + "';",
		strings.Repeat("a'b'", api.MaxText/4),
		strings.Repeat("a=' ';\n#'x'\n", api.MaxText/12),
	} {
		wantApart(t, s)
	}
}

// wantApart: s is its tokens as they are written, one behind the other, with gaps alone between.
func wantApart(t *testing.T, s string) {
	t.Helper()
	l, f := lex.Tokens(s)
	if f != (api.Fault{}) {
		t.Errorf("Tokens(%q): fault %v", s, f)
		return
	}
	behind := 0
	for _, x := range l {
		written := x.Text
		if x.Kind == api.Quote {
			written = "'" + x.Text + "'"
		}
		if x.At < behind || !strings.HasPrefix(s[x.At:], written) {
			t.Errorf("Tokens(%q): %v is not written there, behind byte %d", s, x, behind)
			return
		}
		if !allGap.MatchString(s[behind:x.At]) {
			t.Errorf("Tokens(%q): %q is left out ahead of %v", s, s[behind:x.At], x)
		}
		behind = x.At + len(written)
	}
	if !allGap.MatchString(s[behind:]) {
		t.Errorf("Tokens(%q): %q is left out at the end", s, s[behind:])
	}
}

var (
	allGap    = regexp.MustCompile(`^(?:[ \t\n]|#[^\n]*)*$`)
	gapAhead  = regexp.MustCompile(`^(?:[ \t\n]|#[^\n]*)+`)
	nameAhead = regexp.MustCompile(`^[A-Za-z][A-Za-z0-9_]*`)
	quotAhead = regexp.MustCompile(`^'[ -&(-~]{1,16}'`)
)

// byPatterns is Tokens once more, of texts without names that are too long.
func byPatterns(s string) (l []api.Token, f api.Fault) {
	signs := map[byte]int{'=': api.Is, '|': api.Bar, ';': api.End}
	for at := 0; at < len(s); {
		rest := s[at:]
		if x := gapAhead.FindString(rest); x != "" {
			at += len(x)
		} else if x := nameAhead.FindString(rest); x != "" {
			l = append(l, named(x, at))
			at += len(x)
		} else if x := quotAhead.FindString(rest); x != "" {
			l = append(l, quoted(x[1:len(x)-1], at))
			at += len(x)
		} else if kind := signs[rest[0]]; kind != 0 {
			l = append(l, api.Token{Kind: kind, Text: rest[:1], At: at})
			at++
		} else {
			return nil, api.Fault{E: api.ErrLex, At: at}
		}
	}
	return l, api.Fault{}
}

// eachText hands on all texts of at most most bytes of the alphabet.
func eachText(alphabet string, most int, do func(string)) {
	var grow func(s string)
	grow = func(s string) {
		do(s)
		if len(s) == most {
			return
		}
		for i := range len(alphabet) {
			grow(s + alphabet[i:i+1])
		}
	}
	grow("")
}
