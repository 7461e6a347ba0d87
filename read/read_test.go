package read_test

import (
	"math"
	"regexp"
	"slices"
	"strings"
	"testing"

	"topiarist/api"
	"topiarist/read"
)

// step is how far tokensOf lays tokens apart, so that a place is not mistaken for an index.
const step = 10

// tokensOf is a token of each sign of s: letters are Names, digits Quotes, and ? is of no kind.
func tokensOf(s string) []api.Token {
	var l []api.Token
	for i := range len(s) {
		l = append(l, api.Token{Kind: kindOf(s[i]), Text: s[i : i+1], At: i * step})
	}
	return l
}

func kindOf(c byte) int {
	switch c {
	case '=':
		return api.Is
	case '|':
		return api.Bar
	case ';':
		return api.End
	case '?':
		return 0
	}
	if '0' <= c && c <= '9' {
		return api.Quote
	}
	return api.Name
}

// endOf is where a text of the tokens of s is over.
func endOf(s string) int { return len(s)*step + 3 }

func altsOf(s string) ([]api.Alt, api.Fault) { return read.Alts(tokensOf(s), endOf(s)) }

func syntaxAt(at int) api.Fault { return api.Fault{E: api.ErrSyntax, At: at} }
func largeAt(at int) api.Fault  { return api.Fault{E: api.ErrLarge, At: at} }

// alt is the alternative whose left side is sign left of s, and whose right side is its signs from begin up to end.
func alt(s string, left, begin, end int) api.Alt {
	l := tokensOf(s)
	return api.Alt{Left: l[left], Right: l[begin:end]}
}

func sameAlts(a, b []api.Alt) bool {
	return slices.EqualFunc(a, b, func(x, y api.Alt) bool {
		return x.Left == y.Left && slices.Equal(x.Right, y.Right)
	})
}

func wantAlts(t *testing.T, s string, want ...api.Alt) {
	t.Helper()
	l, f := altsOf(s)
	if f != (api.Fault{}) || !sameAlts(l, want) {
		t.Errorf("Alts of %s = %v, %v; want %v", s, l, f, want)
	}
}

func wantFault(t *testing.T, s string, want api.Fault) {
	t.Helper()
	l, f := altsOf(s)
	if f != want || len(l) != 0 {
		t.Errorf("Alts of %s = %v, %v; want the fault %v alone", s, l, f, want)
	}
}

// wantCount: s is definitions of that many alternatives.
func wantCount(t *testing.T, s string, want int) {
	t.Helper()
	l, f := altsOf(s)
	if f != (api.Fault{}) || len(l) != want {
		t.Errorf("Alts of %s: %d alternatives, %v; want %d", s, len(l), f, want)
	}
}

// P2.1: ordinary tokens.
func TestAltsOfOrdinaryTokens(t *testing.T) {
	s := "a=1;"
	wantAlts(t, s, alt(s, 0, 2, 3))
	s = "a=a1a|2;"
	wantAlts(t, s, alt(s, 0, 2, 5), alt(s, 0, 6, 7))
	s = "a=b1|c;b=2b;a=1|a2|a;"
	wantAlts(t, s, alt(s, 0, 2, 4), alt(s, 0, 5, 6), alt(s, 7, 9, 11),
		alt(s, 12, 14, 15), alt(s, 12, 16, 18), alt(s, 12, 19, 20))
}

// P2.1: an alternative of nothing, wherever it stands.
func TestEmptyAlternatives(t *testing.T) {
	s := "a=;"
	wantAlts(t, s, alt(s, 0, 2, 2))
	s = "a=|;"
	wantAlts(t, s, alt(s, 0, 2, 2), alt(s, 0, 3, 3))
	s = "a=1|;"
	wantAlts(t, s, alt(s, 0, 2, 3), alt(s, 0, 4, 4))
	s = "a=|1;"
	wantAlts(t, s, alt(s, 0, 2, 2), alt(s, 0, 3, 4))
	s = "a=1||b;b=;"
	wantAlts(t, s, alt(s, 0, 2, 3), alt(s, 0, 4, 4), alt(s, 0, 5, 6), alt(s, 7, 9, 9))
}

// P2.1: tokens are told as they are: neither texts nor places are looked at.
func TestTokensAreToldAsTheyAre(t *testing.T) {
	left := api.Token{Kind: api.Name, Text: "9 \x00\xff", At: -7}
	right := []api.Token{{Kind: api.Quote, Text: "", At: math.MaxInt}, {Kind: api.Name, Text: "'='", At: -7}}
	l := []api.Token{left, {Kind: api.Is}, right[0], right[1], {Kind: api.End, Text: "|", At: 3}}
	got, f := read.Alts(l, math.MinInt)
	if want := []api.Alt{{Left: left, Right: right}}; f != (api.Fault{}) || !sameAlts(got, want) {
		t.Errorf("Alts = %v, %v; want %v", got, f, want)
	}
}

// P2.1: no definition at all.
func TestNoDefinition(t *testing.T) {
	for _, end := range []int{0, 1, 5, -1, math.MaxInt, math.MinInt} {
		for _, l := range [][]api.Token{nil, {}} {
			if got, f := read.Alts(l, end); f != syntaxAt(end) || len(got) != 0 {
				t.Errorf("Alts(none, %d) = %v, %v", end, got, f)
			}
		}
	}
}

// P2.1: tokens that are cut within a definition miss one at the end, wherever they are cut.
func TestCutTokens(t *testing.T) {
	whole := "a=b1|;b=|2;c=3;"
	for n := range len(whole) + 1 {
		s := whole[:n]
		if strings.HasSuffix(s, ";") {
			wantCount(t, s, strings.Count(s, "|")+strings.Count(s, ";"))
			continue
		}
		wantFault(t, s, syntaxAt(endOf(s)))
	}
}

// P2.1: each kind of token where it can't stand.
func TestWrongTokens(t *testing.T) {
	for _, x := range []struct{ ahead, wrong string }{
		{"", "1=|;?"},
		{"a", "b1|;?"},
		{"a=", "=?"},
		{"a=b", "=?"},
		{"a=1", "=?"},
		{"a=b1c", "=?"},
		{"a=|", "=?"},
		{"a=1|", "=?"},
		{"a=1;", "1=|;?"},
		{"a=|;", "1=|;?"},
		{"a=1;b", "b1|;?"},
		{"a=1;b=2", "=?"},
	} {
		for i := range len(x.wrong) {
			wrong := x.wrong[i : i+1]
			for _, behind := range []string{"", ";", "=1;", "?=?", "b=1;"} {
				wantFault(t, x.ahead+wrong+behind, syntaxAt(len(x.ahead)*step))
			}
		}
	}
}

// P2.1: numbers that are no kind stand nowhere.
func TestNoKinds(t *testing.T) {
	for _, kind := range []int{0, -1, 6, 7, 100, api.Name + 256, api.End + 1<<32, math.MaxInt, math.MinInt} {
		for _, s := range []string{"?", "a?", "a?1;", "a=?;", "a=1?", "a=1|?;", "a=1;?=2;"} {
			l := tokensOf(s)
			at := strings.Index(s, "?")
			l[at].Kind = kind
			if got, f := read.Alts(l, endOf(s)); f != syntaxAt(at*step) || len(got) != 0 {
				t.Errorf("Alts of %s with kind %d = %v, %v", s, kind, got, f)
			}
		}
	}
}

// P2.1: the fault tells the wrong token's own place, whatever it is.
func TestPlacesOfFaults(t *testing.T) {
	for _, at := range []int{-5, 0, 1 << 40, math.MinInt} {
		if _, f := read.Alts([]api.Token{{Kind: api.Bar, At: at}}, 2); f != syntaxAt(at) {
			t.Errorf("a wrong token at %d: %v", at, f)
		}
		l := []api.Token{{Kind: api.Name, At: at}, {Kind: api.Is, At: 1}}
		for range api.MaxRight + 1 {
			l = append(l, api.Token{Kind: api.Quote, At: 2})
		}
		l = append(l, api.Token{Kind: api.End, At: 3})
		if _, f := read.Alts(l, 4); f != largeAt(at) {
			t.Errorf("a long right side with its left side at %d: %v", at, f)
		}
	}
}

// P2.1: MaxRules alternatives and one more, of one definition and of many.
func TestManyAlternatives(t *testing.T) {
	bars := "a=" + strings.Repeat("|", api.MaxRules-1)
	wantCount(t, bars+";", api.MaxRules)
	wantFault(t, bars+"|;", largeAt(0))
	many := strings.Repeat("a=1;", api.MaxRules-1)
	wantCount(t, many+"b=2;", api.MaxRules)
	wantFault(t, many+"b=2;c=3;", largeAt(len(many+"b=2;")*step))
	wantFault(t, many+"b=2|3;", largeAt(len(many)*step))
	wantFault(t, many+"b=2|3|4;c=5;", largeAt(len(many)*step))
	wantFault(t, many+many, largeAt(len(many+"a=1;")*step))
}

// P2.1: a right side of MaxRight symbols and one more.
func TestLongRightSides(t *testing.T) {
	most := strings.Repeat("b1", api.MaxRight/2)
	s := "a=" + most + ";"
	wantAlts(t, s, alt(s, 0, 2, 2+api.MaxRight))
	wantCount(t, "a="+most+"|"+most+";b="+most+";", 3)
	wantFault(t, "a="+most+"c;", largeAt(0))
	wantFault(t, "a="+most+"1|2;", largeAt(0))
	wantFault(t, "a=1;b=2|"+most+"1;", largeAt(4*step))
	wantFault(t, "a=1|2;a="+most+most+";", largeAt(6*step))
	wantFault(t, "a="+strings.Repeat("1", 100000)+";", largeAt(0))
}

// P2.1: of two faults the one that is read first; an alternative is read with the token behind it.
func TestFirstOfTwoFaults(t *testing.T) {
	long := strings.Repeat("1", api.MaxRight+1)
	full := strings.Repeat("a=;", api.MaxRules)
	for _, s := range []string{"a=" + long, full + "b=", full + "b=1", full + "b=" + long} {
		wantFault(t, s, syntaxAt(endOf(s)))
		for _, wrong := range []string{"?", "=", "=;", "?|", "=1;b=2;"} {
			wantFault(t, s+wrong, syntaxAt(len(s)*step))
		}
	}
	wantFault(t, full+"b", syntaxAt(endOf(full+"b")))
	wantFault(t, full+"b;", syntaxAt(len(full+"b")*step))
	wantFault(t, full+"|", syntaxAt(len(full)*step))
	for _, behind := range []string{"", "?", "=", "|=", "1", ";", "b=" + long + ";"} {
		wantFault(t, "a="+long+"|"+behind, largeAt(0))
		wantFault(t, "a="+long+";"+behind, largeAt(0))
		wantFault(t, full+"b=|"+behind, largeAt(len(full)*step))
		wantFault(t, full+"b=;"+behind, largeAt(len(full)*step))
		wantFault(t, full+"b="+long+"|"+behind, largeAt(len(full)*step))
	}
	wantFault(t, "a=1?|"+long+";", syntaxAt(3*step))
	wantFault(t, "a=1=;b="+long+";", syntaxAt(3*step))
	wantFault(t, "a="+long+";"+full+"b=;", largeAt(0))
	wantFault(t, "b="+strings.Repeat("|", 100)+long+";", largeAt(0))
}

// P2.1, P2.2: all short lists of tokens, held against the chapter's words written as patterns.
func TestAllShortLists(t *testing.T) {
	eachText("a1=|;?", 7, func(s string) {
		if f, wrong := firstWrong(s); wrong {
			wantFault(t, s, f)
			return
		}
		wantAlts(t, s, bySplitting(s)...)
		wantEachOnce(t, s)
	})
}

// P2.2: of longer lists, too, each Name and Quote is in its place.
func TestEachNameAndQuoteOnce(t *testing.T) {
	most := strings.Repeat("b1", api.MaxRight/2)
	for _, s := range []string{
		"a=a1a|2;",
		"a=b1|c;b=2b;a=1|a2|a;",
		"a=aaaa|aaa||aa;a=a;a=;",
		strings.Repeat("a="+most+"|"+most+";", api.MaxRules/2),
		"a=" + strings.Repeat("1|", api.MaxRules-1) + most + ";",
	} {
		wantEachOnce(t, s)
	}
}

// wantEachOnce: each Name and Quote of s stands in one alternative, or is a left side, and nothing else is.
func wantEachOnce(t *testing.T, s string) {
	t.Helper()
	alts, f := altsOf(s)
	if f != (api.Fault{}) {
		t.Errorf("Alts of %s: fault %v", s, f)
		return
	}
	var told []api.Token
	for i, a := range alts {
		if i == 0 || alts[i-1].Left != a.Left {
			told = append(told, a.Left)
		}
		told = append(told, a.Right...)
	}
	var want []api.Token
	for _, x := range tokensOf(s) {
		if x.Kind == api.Name || x.Kind == api.Quote {
			want = append(want, x)
		}
	}
	if !slices.Equal(told, want) {
		t.Errorf("Alts of %s hold %v; its Names and Quotes are %v", s, told, want)
	}
}

// Rule 2 of the document: what is handed in is not changed, its spare room included.
func TestArgumentsAreNotChanged(t *testing.T) {
	for _, s := range []string{"a=b1|;b=2;", "a=b1|?", "a=1", "a=" + strings.Repeat("1", api.MaxRight+1) + ";"} {
		room := tokensOf(s + "c=3;?")
		before := slices.Clone(room)
		read.Alts(room[:len(s)], endOf(s))
		if !slices.Equal(room, before) {
			t.Errorf("Alts of %s changed its argument to %v", s, room)
		}
	}
}

// Rule 2 of the document: lists of answers share no memory with each other, nor with the argument.
func TestAnswersAreNew(t *testing.T) {
	s := "a=b1|c;b=|2b;"
	l := tokensOf(s)
	first, _ := read.Alts(l, endOf(s))
	second, _ := read.Alts(l, endOf(s))
	want, _ := altsOf(s)
	for i := range first {
		right := first[i].Right
		clear(right[:cap(right)])
		for k := range first {
			if k > i && !slices.Equal(first[k].Right, want[k].Right) {
				t.Errorf("a change of right side %d made right side %d %v", i, k, first[k].Right)
			}
		}
	}
	clear(first[:cap(first)])
	if !slices.Equal(l, tokensOf(s)) {
		t.Errorf("a change of an answer made the argument %v", l)
	}
	clear(l)
	if !sameAlts(second, want) {
		t.Errorf("a change of another answer and of the argument made an answer %v", second)
	}
}

var (
	whole = regexp.MustCompile(`^(?:[a-z]=[a-z0-9|]*;)+$`)
	begun = regexp.MustCompile(`^(?:[a-z]=[a-z0-9|]*;)*(?:[a-z](?:=[a-z0-9|]*)?)?$`)
)

// firstWrong is the syntax's fault in s, if there is one.
func firstWrong(s string) (api.Fault, bool) {
	for i := range len(s) {
		if !begun.MatchString(s[:i+1]) {
			return syntaxAt(i * step), true
		}
	}
	if !whole.MatchString(s) {
		return syntaxAt(endOf(s)), true
	}
	return api.Fault{}, false
}

// bySplitting is the alternatives of s, which are definitions.
func bySplitting(s string) []api.Alt {
	var l []api.Alt
	at := 0
	for _, definition := range strings.SplitAfter(strings.TrimSuffix(s, ";"), ";") {
		left := at
		at += len("a=")
		for _, right := range strings.Split(strings.TrimSuffix(definition[len("a="):], ";"), "|") {
			l = append(l, alt(s, left, at, at+len(right)))
			at += len(right) + 1
		}
	}
	return l
}

// eachText hands on all texts of at most most bytes of the alphabet.
func eachText(alphabet string, most int, do func(string)) {
	var grow func(s string)
	grow = func(s string) {
		do(s)
		if len(s) == most {
			return
		}
		for i := range len(alphabet) {
			grow(s + alphabet[i:i+1])
		}
	}
	grow("")
}
