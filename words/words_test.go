package words_test

import (
	"fmt"
	"math"
	"runtime"
	"slices"
	"strings"
	"testing"
	"time"
	"unsafe"

	"topiarist/api"
	"topiarist/grammar"
	"topiarist/words"
)

func rule(left int, right ...int) api.Rule { return api.Rule{Left: left, Right: right} }

// grammarOf is a grammar whose terms, and names, are parted by blanks.
func grammarOf(terms, names string, rules ...api.Rule) api.Grammar {
	return api.Grammar{Terms: strings.Fields(terms), Names: strings.Fields(names), Rules: rules}
}

// ordinary is a grammar that may be: A = B 'x' | ; B = 'y' 'x' | A ; A = 'x' ;
func ordinary() api.Grammar {
	return grammarOf("x y", "A B", rule(2, 3, 0), rule(2), rule(3, 1, 0), rule(3, 2), rule(2, 0))
}

// read is the grammar that s is the text of.
func read(t *testing.T, s string) api.Grammar {
	t.Helper()
	g, f := grammar.Of(s)
	if f != (api.Fault{}) {
		t.Fatalf("Of(%q): %v", s, f)
	}
	return g
}

// short is x for a message, cut where x is huge.
func short(x any) string {
	const most = 300
	s := fmt.Sprintf("%q", x)
	if len(s) > most {
		s = s[:most] + " .."
	}
	return s
}

func wantOf(t *testing.T, g api.Grammar, w []string, want ...int) {
	t.Helper()
	if l, e := words.Of(g, w); !slices.Equal(l, want) || e != api.OK {
		t.Errorf("Of(%s, %s) = %v, %d; want %v", short(g), short(w), l, e, want)
	}
}

func wantTexts(t *testing.T, g api.Grammar, w []int, want ...string) {
	t.Helper()
	if l, e := words.Texts(g, w); !slices.Equal(l, want) || e != api.OK {
		t.Errorf("Texts(%s, %s) = %q, %d; want %q", short(g), short(w), l, e, want)
	}
}

// wantBoth: the numbers of those texts are w, and the texts of w are those.
func wantBoth(t *testing.T, g api.Grammar, w []int, texts ...string) {
	t.Helper()
	wantOf(t, g, texts, w...)
	wantTexts(t, g, w, texts...)
}

func wantOfError(t *testing.T, g api.Grammar, w []string, want api.Errno) {
	t.Helper()
	if l, e := words.Of(g, w); len(l) != 0 || e != want {
		t.Errorf("Of(%s, %s) = %v, %d; want error %d alone", short(g), short(w), l, e, want)
	}
}

func wantTextsError(t *testing.T, g api.Grammar, w []int, want api.Errno) {
	t.Helper()
	if l, e := words.Texts(g, w); len(l) != 0 || e != want {
		t.Errorf("Texts(%s, %s) = %q, %d; want error %d alone", short(g), short(w), l, e, want)
	}
}

func wantSplit(t *testing.T, s string, want ...string) {
	t.Helper()
	if l := words.Split(s); !slices.Equal(l, want) {
		t.Errorf("Split(%s) = %s; want %s", short(s), short(l), short(want))
	}
}

// P5.1: ordinary words: of several terminals, of one again and again, of none at all.
func TestOrdinaryWords(t *testing.T) {
	g := ordinary()
	wantBoth(t, g, nil)
	wantBoth(t, g, []int{}, []string{}...)
	wantBoth(t, g, []int{0}, "x")
	wantBoth(t, g, []int{1}, "y")
	wantBoth(t, g, []int{0, 1}, "x", "y")
	wantBoth(t, g, []int{1, 0}, "y", "x")
	wantBoth(t, g, []int{1, 1, 1}, "y", "y", "y")
	wantBoth(t, g, []int{1, 0, 0, 1, 0}, "y", "x", "x", "y", "x")
	sum := read(t, "Sum = Sum '+' One | One ; One = 'x' | '(' Sum ')' ;")
	wantBoth(t, sum, []int{2, 1, 0, 1, 3, 0, 1}, "(", "x", "+", "x", ")", "+", "x")
}

// P5.1: the numbers go by the order of Terms, not by that of the texts.
func TestOrderOfTerms(t *testing.T) {
	g := read(t, "S = 'z' 'a' S 'm' | 'b' ;")
	wantBoth(t, g, []int{0, 1, 2, 3}, "z", "a", "m", "b")
	wantBoth(t, g, []int{1, 3, 2, 0}, "a", "b", "m", "z")
}

// P5.1: a terminal whose text has blanks in it is one token.
func TestTermsWithBlanks(t *testing.T) {
	g := read(t, "S = 'b c' S ' ' | 'b' 'c' | '  ' | ' b' | 'b ' ;")
	wantBoth(t, g, []int{0, 2, 3}, "b c", "b", "c")
	wantBoth(t, g, []int{1, 4, 1}, " ", "  ", " ")
	wantBoth(t, g, []int{5, 6, 2}, " b", "b ", "b")
	wantOf(t, g, []string{"b  c", " b ", "   ", "c ", "b c", "b\tc"}, -1, -1, -1, -1, 0, -1)
}

// P5.1: other signs in a terminal's text.
func TestSignsInTerms(t *testing.T) {
	terms := []string{"#", ";", "|", "=", "\"", "\\n", "~", "%s", "-1", "0"}
	g := api.Grammar{Terms: terms, Names: []string{"S"}}
	for sym := range terms {
		g.Rules = append(g.Rules, rule(len(terms), sym, sym))
	}
	for _, text := range terms {
		wantOf(t, g, []string{text + text, "'" + text + "'", text + " "}, -1, -1, -1)
	}
	wantBoth(t, g, []int{9, 8, 7, 6, 5, 4, 3, 2, 1, 0}, "0", "-1", "%s", "~", "\\n", "\"", "=", "|", ";", "#")
}

// P5.1: -1 of tokens that are no terminal's, a nonterminal's name among them.
func TestTokensOfNoTerminal(t *testing.T) {
	g := ordinary()
	wantOf(t, g, []string{"z"}, -1)
	wantOf(t, g, []string{"A", "B"}, -1, -1)
	wantOf(t, g, []string{""}, -1)
	wantOf(t, g, []string{"x", "A", "y", "", "x"}, 0, -1, 1, -1, 0)
	wantOf(t, g, []string{"X", "xx", "xy", " x", "x ", "'x'", "x\x00", "\xff", "0"}, -1, -1, -1, -1, -1, -1, -1, -1, -1)
	wantOf(t, g, []string{strings.Repeat("x", 1<<22), "y"}, -1, 1)
	wantOf(t, grammarOf("", "S", rule(0)), []string{"S", "", "a"}, -1, -1, -1)
	wantOf(t, grammarOf("", "S", rule(0)), nil)
}

// P5.1: a terminal and a nonterminal of one text: the number is the terminal's.
func TestOneTextOfTwoSymbols(t *testing.T) {
	g := grammarOf("b a", "a b", rule(2, 3, 0), rule(3, 1, 2))
	wantBoth(t, g, []int{1, 0, 1}, "a", "b", "a")
	wantTextsError(t, g, []int{2}, api.ErrArg)
	wantTextsError(t, g, []int{3}, api.ErrArg)
}

// wide is a grammar of so many terminals and nonterminals, each of which stands where it must.
func wide(terms, names int) api.Grammar {
	var g api.Grammar
	for sym := range terms {
		g.Terms = append(g.Terms, fmt.Sprint("t", sym))
	}
	for n := range names {
		g.Names = append(g.Names, fmt.Sprint("n", n))
		g.Rules = append(g.Rules, rule(terms+n))
	}
	for sym := range terms {
		r := &g.Rules[sym/api.MaxRight]
		r.Right = append(r.Right, sym)
	}
	return g
}

// P5.1, P5.2: as many terminals as there may be, all in one word.
func TestManyTerms(t *testing.T) {
	g := wide(api.MaxTerms, api.MaxNames)
	var w []int
	for sym := range api.MaxTerms {
		w = append(w, sym)
	}
	wantBoth(t, g, w, g.Terms...)
	wantTextsError(t, g, []int{api.MaxTerms}, api.ErrArg)
	wantTextsError(t, g, []int{api.MaxTerms + api.MaxNames - 1}, api.ErrArg)
	wantOf(t, g, []string{"n0", "t40", "t39", "t"}, -1, -1, 39, -1)
}

// P5.1: words of just MaxWord tokens, of one less, of one more, of many more.
func TestLongWords(t *testing.T) {
	g := ordinary()
	for _, n := range []int{api.MaxWord - 1, api.MaxWord} {
		texts, w := slices.Repeat([]string{"x"}, n), make([]int, n)
		texts[n-1], w[n-1] = "y", 1
		wantBoth(t, g, w, texts...)
	}
	none := slices.Repeat([]int{-1}, api.MaxWord)
	wantOf(t, g, make([]string, api.MaxWord), none...)
	for _, n := range []int{api.MaxWord + 1, 2 * api.MaxWord, 256, 1 << 16, 1 << 22} {
		wantOfError(t, g, slices.Repeat([]string{"x"}, n), api.ErrLarge)
		wantTextsError(t, g, make([]int, n), api.ErrLarge)
	}
}

// P5.1: numbers that are no terminal's: below 0, a nonterminal's, beyond all symbols; wherever in the word they stand.
func TestNumbersOfNoTerminal(t *testing.T) {
	g := ordinary()
	wrong := []int{-1, -2, 2, 3, 4, 5, 256, 257, 1 << 16, 1 << 31, 1 << 32, 1 + 1<<32, 1 << 40, -1 << 32, math.MaxInt, math.MinInt, math.MinInt + 1}
	for _, sym := range wrong {
		wantTextsError(t, g, []int{sym}, api.ErrArg)
		for at := range api.MaxWord {
			w := make([]int, api.MaxWord)
			w[at] = sym
			wantTextsError(t, g, w, api.ErrArg)
		}
	}
	wantTextsError(t, g, wrong, api.ErrArg)
	wantTextsError(t, grammarOf("", "S", rule(0)), []int{0}, api.ErrArg)
	wantTexts(t, grammarOf("", "S", rule(0)), nil)
}

// wantNothing: g may not be, so that no word is told of it, not even one of nothing or one that has another fault besides.
func wantNothing(t *testing.T, g api.Grammar) {
	t.Helper()
	for _, w := range [][]string{nil, {"x"}, {"no", "terminal"}, make([]string, api.MaxWord), make([]string, api.MaxWord+1)} {
		wantOfError(t, g, w, api.ErrForm)
	}
	for _, w := range [][]int{nil, {0}, {0, -1}, make([]int, api.MaxWord), make([]int, api.MaxWord+1), slices.Repeat([]int{-1}, api.MaxWord+1)} {
		wantTextsError(t, g, w, api.ErrForm)
	}
}

// P5.1: grammars that may not be, for each cause that chapter 3 names.
func TestGrammarsThatMayNotBe(t *testing.T) {
	long := strings.Repeat("n", api.MaxName+1)
	for what, change := range map[string]func(g *api.Grammar){
		"nothing":             func(g *api.Grammar) { *g = api.Grammar{} },
		"no rules":            func(g *api.Grammar) { g.Rules = nil },
		"no names":            func(g *api.Grammar) { g.Names = nil },
		"no terms":            func(g *api.Grammar) { g.Terms = nil },
		"no name":             func(g *api.Grammar) { g.Names[1] = "9" },
		"an empty name":       func(g *api.Grammar) { g.Names[1] = "" },
		"a long name":         func(g *api.Grammar) { g.Names[1] = long },
		"names alike":         func(g *api.Grammar) { g.Names[1] = g.Names[0] },
		"a quote in a term":   func(g *api.Grammar) { g.Terms[1] = "'" },
		"a newline in a term": func(g *api.Grammar) { g.Terms[1] = "\n" },
		"an empty term":       func(g *api.Grammar) { g.Terms[1] = "" },
		"a long term":         func(g *api.Grammar) { g.Terms[1] = long },
		"terms alike":         func(g *api.Grammar) { g.Terms[1] = g.Terms[0] },
		"a name without rule": func(g *api.Grammar) { g.Names = append(g.Names, "C") },
		"a term in no rule":   func(g *api.Grammar) { g.Rules[2].Right = nil },
		"a left of a term":    func(g *api.Grammar) { g.Rules[4].Left = 0 },
		"a left below 0":      func(g *api.Grammar) { g.Rules[4].Left = -1 },
		"a left behind all":   func(g *api.Grammar) { g.Rules[4].Left = 4 },
		"a symbol below 0":    func(g *api.Grammar) { g.Rules[4].Right[0] = math.MinInt },
		"a symbol behind all": func(g *api.Grammar) { g.Rules[4].Right[0] = 4 },
		"a huge symbol":       func(g *api.Grammar) { g.Rules[4].Right[0] = 1 << 32 },
		"rules alike":         func(g *api.Grammar) { g.Rules[4] = g.Rules[0] },
		"names out of order":  func(g *api.Grammar) { g.Rules = append([]api.Rule{rule(3)}, g.Rules...) },
		"terms out of order":  func(g *api.Grammar) { g.Rules[0].Right[1] = 1 },
		"a long right side":   func(g *api.Grammar) { g.Rules[4].Right = make([]int, api.MaxRight+1) },
		"many terms":          func(g *api.Grammar) { *g = wide(api.MaxTerms+1, api.MaxNames) },
		"many names":          func(g *api.Grammar) { *g = wide(api.MaxTerms, api.MaxNames+1) },
		"huge terms":          func(g *api.Grammar) { g.Terms = make([]string, 1<<22) },
		"huge rules":          func(g *api.Grammar) { g.Rules = make([]api.Rule, 1<<22) },
	} {
		t.Run(what, func(t *testing.T) {
			g := ordinary()
			change(&g)
			wantNothing(t, g)
		})
	}
}

// P5.1: which of two errors is told where both apply: ErrForm ahead of the others (see wantNothing), ErrLarge ahead of ErrArg.
func TestFirstOfTwoErrors(t *testing.T) {
	g := ordinary()
	for _, sym := range []int{-1, 2, 4, math.MinInt} {
		wantTextsError(t, g, slices.Repeat([]int{sym}, api.MaxWord+1), api.ErrLarge)
		wantTextsError(t, g, slices.Repeat([]int{sym}, api.MaxWord), api.ErrArg)
		wantTextsError(t, g, append(make([]int, api.MaxWord), sym), api.ErrLarge)
		wantTextsError(t, g, append([]int{sym}, make([]int, api.MaxWord)...), api.ErrLarge)
	}
	wantOfError(t, g, make([]string, api.MaxWord+1), api.ErrLarge)
	wantNothing(t, grammarOf("x", "A", rule(1)))
	wantNothing(t, grammarOf("", "A"))
}

// P5.1: the chapter's example.
func TestExample(t *testing.T) {
	wantSplit(t, " a  b", "a", "b")
}

// P5.1: what Split tells of ordinary texts.
func TestSplitOrdinaryTexts(t *testing.T) {
	wantSplit(t, "a", "a")
	wantSplit(t, "a b", "a", "b")
	wantSplit(t, "a\nb", "a", "b")
	wantSplit(t, "a\tb", "a", "b")
	wantSplit(t, "if x then y else z", "if", "x", "then", "y", "else", "z")
	wantSplit(t, "b a b a", "b", "a", "b", "a")
	wantSplit(t, "( x+y )\n* 'b c'\t# no note", "(", "x+y", ")", "*", "'b", "c'", "#", "no", "note")
}

// P5.1: blanks, newlines and tabs alone, at a text's beginning, at its end, several in a row.
func TestSplitAtTheEdges(t *testing.T) {
	wantSplit(t, "")
	gaps := []string{" ", "\n", "\t", "  ", "\n\n", "\t\t", " \n", "\n ", " \t", "\t ", "\n\t", "\t\n", " \n\t \t\n ", strings.Repeat(" ", 1000)}
	for _, gap := range gaps {
		wantSplit(t, gap)
		wantSplit(t, gap+"a", "a")
		wantSplit(t, "a"+gap, "a")
		wantSplit(t, "ab"+gap+"c", "ab", "c")
		for _, other := range gaps {
			wantSplit(t, gap+"a"+other, "a")
			wantSplit(t, gap+"a"+other+"b"+gap, "a", "b")
			wantSplit(t, "a"+gap+"bc"+other+"a", "a", "bc", "a")
		}
	}
}

// P5.1: no other sign parts tokens: not one that is blank elsewhere, nor one that is no text's.
func TestSplitAtNoOtherSign(t *testing.T) {
	for b := range 256 {
		one := string([]byte{byte(b)})
		if one == " " || one == "\n" || one == "\t" {
			continue
		}
		wantSplit(t, one, one)
		wantSplit(t, "a"+one+"b "+one, "a"+one+"b", one)
	}
	for _, one := range []string{"\u0085", "\u00a0", "\u1680", "\u2003", "\u2028", "\u2029", "\u202f", "\u3000", "\ufeff", "\ufffd", "é", "世界", "\xe3\x80", "\x80\xff", "\r\v\f"} {
		wantSplit(t, one, one)
		wantSplit(t, one+" "+one+"\n"+"a"+one, one, one, "a"+one)
	}
}

// P5.1: Split has no limit of tokens, and none of bytes.
func TestSplitLongTexts(t *testing.T) {
	for _, n := range []int{api.MaxWord, api.MaxWord + 1, api.MaxText, 1 << 17} {
		var want []string
		for i := range n {
			want = append(want, fmt.Sprint(i))
		}
		wantSplit(t, strings.Join(want, " "), want...)
		wantSplit(t, "\n"+strings.Join(want, "\t \n")+" ", want...)
	}
	long := strings.Repeat("a", 1<<22)
	wantSplit(t, long, long)
	wantSplit(t, " "+long+"\t"+long, long, long)
	wantSplit(t, strings.Repeat(" \n\t", 1<<20))
}

// plainSplit goes byte by byte, without what the package leans on.
func plainSplit(s string) []string {
	var l []string
	token := ""
	for i := range len(s) {
		if c := s[i]; c != ' ' && c != '\n' && c != '\t' {
			token += string([]byte{c})
			continue
		}
		if token != "" {
			l = append(l, token)
		}
		token = ""
	}
	if token != "" {
		l = append(l, token)
	}
	return l
}

// P5.1: all short texts of some signs.
func TestSplitAllShortTexts(t *testing.T) {
	signs := []string{" ", "\n", "\t", "a", "\r", "\xc2", "\xa0"}
	all := []string{""}
	for n, from := 0, 0; n < 5; n++ {
		before := all[from:]
		from = len(all)
		for _, s := range before {
			for _, sign := range signs {
				all = append(all, s+sign)
			}
		}
	}
	for _, s := range all {
		wantSplit(t, s, plainSplit(s)...)
	}
}

// eachWord hands on all words of up to most tokens, whose numbers go from low up to high.
func eachWord(low, high, most int, do func([]int)) {
	var grow func(w []int)
	grow = func(w []int) {
		do(slices.Clone(w))
		if len(w) == most {
			return
		}
		for sym := low; sym <= high; sym++ {
			grow(append(w, sym))
		}
	}
	grow(nil)
}

// P5.1, P5.2: of all short words, Of of Texts is the word just if all numbers are terminals', and of others nothing is told.
func TestAllShortWords(t *testing.T) {
	for _, s := range []string{"S = ;", "S = 'a' ;", "S = 'a' S 'b c' | ;", "S = 'T' T 'S' ; T = ' ' ;"} {
		g := read(t, s)
		eachWord(-1, len(g.Terms)+len(g.Names), 4, func(w []int) {
			if slices.ContainsFunc(w, func(sym int) bool { return sym < 0 || sym >= len(g.Terms) }) {
				wantTextsError(t, g, w, api.ErrArg)
				return
			}
			wantAgain(t, g, w)
		})
	}
}

// wantAgain: Of of Texts of w is w.
func wantAgain(t *testing.T, g api.Grammar, w []int) {
	t.Helper()
	texts, e := words.Texts(g, w)
	again, e2 := words.Of(g, texts)
	if e != api.OK || e2 != api.OK || len(texts) != len(w) || !slices.Equal(again, w) {
		t.Errorf("Texts(%s, %v) = %q, %d, of which the word is %v, %d", short(g), w, texts, e, again, e2)
	}
}

// P5.2: Of of Texts is the word: words of all lengths, of all terminals.
func TestWordsAgain(t *testing.T) {
	for _, g := range []api.Grammar{
		ordinary(),
		wide(api.MaxTerms, api.MaxNames),
		read(t, "S = 'b c' S ' ' | 'b' 'c' | '  ' | 'S' | '\"' | '#' ;"),
	} {
		for n := range api.MaxWord + 1 {
			w := make([]int, n)
			for i := range w {
				w[i] = (i*i + 7*n + 3) % len(g.Terms)
			}
			wantAgain(t, g, w)
			slices.Reverse(w)
			wantAgain(t, g, w)
		}
	}
}

func whole[T any](l []T) []T { return l[:cap(l)] }

// withRoom is l in a list that has spare room, which is filled.
func withRoom[T any](l []T, spare T) []T {
	return append(slices.Clone(l), spare, spare)[:len(l)]
}

// grammarWithRoom is g in lists that have spare room, which is filled.
func grammarWithRoom(g api.Grammar) api.Grammar {
	g.Terms = withRoom(g.Terms, "spare")
	g.Names = withRoom(g.Names, "spare")
	g.Rules = withRoom(g.Rules, rule(9, 9))
	for i, r := range g.Rules {
		g.Rules[i].Right = withRoom(r.Right, 9)
	}
	return g
}

// roomOf is all that g's lists have, spare room included.
func roomOf(g api.Grammar) string {
	s := fmt.Sprintf("%q %q %v", whole(g.Terms), whole(g.Names), whole(g.Rules))
	for _, r := range g.Rules {
		s += fmt.Sprint(whole(r.Right))
	}
	return s
}

// Rule 2 of the document: what is handed in is not changed, its spare room included.
func TestArgumentsAreNotChanged(t *testing.T) {
	wrong := ordinary()
	wrong.Rules[4].Right[0] = 7
	for _, x := range []api.Grammar{ordinary(), wrong} {
		for _, n := range []int{0, 1, 3, api.MaxWord, api.MaxWord + 1} {
			g := grammarWithRoom(x)
			texts := withRoom(slices.Repeat([]string{"y"}, n), "spare")
			right, bad := withRoom(slices.Repeat([]int{1}, n), 9), withRoom(slices.Repeat([]int{-1}, n), 9)
			state := func() string {
				return roomOf(g) + fmt.Sprintf("%q %v %v", whole(texts), whole(right), whole(bad))
			}
			before := state()
			words.Of(g, texts)
			words.Texts(g, right)
			words.Texts(g, bad)
			if after := state(); after != before {
				t.Errorf("%s was changed to %s", before, after)
			}
		}
	}
}

// shares tells whether two texts have memory in common.
func shares(a, b string) bool {
	if a == "" || b == "" {
		return false
	}
	low, other := uintptr(unsafe.Pointer(unsafe.StringData(a))), uintptr(unsafe.Pointer(unsafe.StringData(b)))
	return low < other+uintptr(len(b)) && other < low+uintptr(len(a))
}

// Rule 2 of the document: what is told is new memory.
func TestAnswersAreNew(t *testing.T) {
	g := read(t, "S = 'one' S 'two' | ;")
	first, _ := words.Texts(g, []int{0, 1, 0})
	second, _ := words.Texts(g, []int{0, 1, 0})
	for i, text := range first {
		if slices.ContainsFunc(g.Terms, func(term string) bool { return shares(text, term) }) || shares(text, second[i]) {
			t.Errorf("text %d of Texts is not new", i)
		}
	}
	first[0], whole(first)[cap(first)-1] = "changed", "changed"
	if second[0] != "one" || g.Terms[0] != "one" {
		t.Error("Texts handed out one list twice")
	}
	s := strings.Repeat("ab cd\t", 20)
	for _, token := range words.Split(s) {
		if shares(token, s) {
			t.Fatal("a token of Split is not new")
		}
	}
	a, _ := words.Of(g, []string{"one", "two"})
	b, _ := words.Of(g, []string{"one", "two"})
	clear(whole(a))
	if !slices.Equal(b, []int{0, 1}) {
		t.Error("Of handed out one list twice")
	}
}

// Rules 2 and 4 of the document: nil and empty lists are one, and what was told before is not to be seen in an answer.
func TestAnswersHangOnArgumentsAlone(t *testing.T) {
	empty := api.Grammar{Terms: []string{}, Names: []string{"S"}, Rules: []api.Rule{{Right: []int{}}}}
	for range 300 {
		wantBoth(t, empty, []int{}, []string{}...)
		wantOfError(t, api.Grammar{}, []string{"x"}, api.ErrForm)
		wantBoth(t, grammarWithRoom(ordinary()), []int{1, 0, 0}, "y", "x", "x")
		wantTextsError(t, ordinary(), []int{1, 0, 2}, api.ErrArg)
		wantBoth(t, read(t, "S = 'y' 'x' ;"), []int{0, 1, 1}, "y", "x", "x")
		wantOfError(t, ordinary(), make([]string, api.MaxWord+1), api.ErrLarge)
		wantSplit(t, "c b  a", "c", "b", "a")
	}
}

// Rule 5 of the document: what goroutines a call begins are over when it ends.
func TestGoroutinesAreOver(t *testing.T) {
	before := runtime.NumGoroutine()
	g := ordinary()
	for range 200 {
		words.Of(g, slices.Repeat([]string{"x"}, api.MaxWord))
		words.Of(g, make([]string, api.MaxWord+1))
		words.Of(api.Grammar{}, []string{"x", "y"})
		words.Texts(g, make([]int, api.MaxWord))
		words.Texts(g, []int{0, -1, 0})
		words.Split(" a b\tc\n")
	}
	// A goroutine that is over may be counted for a moment.
	for wait := 0; runtime.NumGoroutine() > before && wait < 1000; wait++ {
		time.Sleep(time.Millisecond)
	}
	if after := runtime.NumGoroutine(); after > before {
		t.Errorf("%d goroutines go on", after-before)
	}
}
