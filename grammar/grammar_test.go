package grammar_test

import (
	"fmt"
	"math"
	"slices"
	"strings"
	"testing"

	"topiarist/api"
	"topiarist/grammar"
	"topiarist/lex"
	"topiarist/read"
)

func rule(left int, right ...int) api.Rule { return api.Rule{Left: left, Right: right} }

// grammarOf is a grammar whose terms, and names, are parted by blanks.
func grammarOf(terms, names string, rules ...api.Rule) api.Grammar {
	return api.Grammar{Terms: strings.Fields(terms), Names: strings.Fields(names), Rules: rules}
}

// same takes nil and empty lists for one.
func same(a, b api.Grammar) bool {
	return slices.Equal(a.Terms, b.Terms) && slices.Equal(a.Names, b.Names) &&
		slices.EqualFunc(a.Rules, b.Rules, func(x, y api.Rule) bool {
			return x.Left == y.Left && slices.Equal(x.Right, y.Right)
		})
}

// numbered is s in which each ? is how many of them are ahead of it.
func numbered(s string) string {
	for n := 0; strings.Contains(s, "?"); n++ {
		s = strings.Replace(s, "?", fmt.Sprint(n), 1)
	}
	return s
}

// shortText is g for a message, cut where g is huge.
func shortText(g api.Grammar) string {
	const most = 500
	s := fmt.Sprintf("%q %q %v", g.Terms, g.Names, g.Rules)
	if len(s) > most {
		s = s[:most] + " .."
	}
	return s
}

func wantGrammar(t *testing.T, s string, want api.Grammar) {
	t.Helper()
	g, f := grammar.Of(s)
	if f != (api.Fault{}) || !same(g, want) {
		t.Errorf("Of(%q) = %v, %v; want %v", s, g, f, want)
	}
	wantGood(t, g, true)
}

// wantSizes: s is a grammar's text, and it has that many terminals, nonterminals and rules.
func wantSizes(t *testing.T, s string, terms, names, rules int) {
	t.Helper()
	g, f := grammar.Of(s)
	if f != (api.Fault{}) || len(g.Terms) != terms || len(g.Names) != names || len(g.Rules) != rules {
		t.Errorf("Of(%q): %d terminals, %d nonterminals, %d rules, %v; want %d, %d, %d",
			s, len(g.Terms), len(g.Names), len(g.Rules), f, terms, names, rules)
	}
	wantGood(t, g, true)
}

func wantFault(t *testing.T, s string, e api.Errno, at int) {
	t.Helper()
	g, f := grammar.Of(s)
	if f != (api.Fault{E: e, At: at}) || !same(g, api.Grammar{}) {
		t.Errorf("Of(%q) = %v, %v; want error %d at %d alone", s, g, f, e, at)
	}
}

func wantGood(t *testing.T, g api.Grammar, want bool) {
	t.Helper()
	if grammar.Good(g) != want {
		t.Errorf("Good(%s) = %v", shortText(g), !want)
	}
}

// P3.1: ordinary texts.
func TestOfOrdinaryTexts(t *testing.T) {
	wantGrammar(t, "S = 'a' S | ;", grammarOf("a", "S", rule(1, 0, 1), rule(1)))
	wantGrammar(t, "S = '(' S ')' | ;   # brackets", grammarOf("( )", "S", rule(2, 0, 2, 1), rule(2)))
	wantGrammar(t, "Sum = Sum '+' One | One ;\nOne = 'x' | '(' Sum ')' ;\n",
		grammarOf("+ x ( )", "Sum One", rule(4, 4, 0, 5), rule(4, 5), rule(5, 1), rule(5, 2, 4, 3)))
	wantGrammar(t, "S=S S|S|'a';", grammarOf("a", "S", rule(1, 1, 1), rule(1, 1), rule(1, 0)))
	wantGrammar(t, "S='a b' '#';",
		api.Grammar{Terms: []string{"a b", "#"}, Names: []string{"S"}, Rules: []api.Rule{rule(2, 0, 1)}})
}

// P3.1: grammars without terminals.
func TestOfTextsWithoutQuotes(t *testing.T) {
	wantGrammar(t, "S = ;", grammarOf("", "S", rule(0)))
	wantGrammar(t, "S = S ;", grammarOf("", "S", rule(0, 0)))
	wantGrammar(t, "S = T | ; T = S S ;", grammarOf("", "S T", rule(0, 1), rule(0), rule(1, 0, 0)))
}

// P3.1: nonterminals are in the order in which they come first as left sides, terminals in that of the Quotes.
func TestOrderOfSymbols(t *testing.T) {
	wantGrammar(t, "B = C A ; A = C ; C = ;", grammarOf("", "B A C", rule(0, 2, 1), rule(1, 2), rule(2)))
	wantGrammar(t, "A = C ; C = B ; A = B ; B = ;", grammarOf("", "A C B", rule(0, 1), rule(1, 2), rule(0, 2), rule(2)))
	wantGrammar(t, "z = a ; a = z ;", grammarOf("", "z a", rule(0, 1), rule(1, 0)))
	wantGrammar(t, "S = 'z' 'a' | 'm' 'z' ; T = 'b' 'a' ;",
		grammarOf("z a m b", "S T", rule(4, 0, 1), rule(4, 2, 0), rule(5, 3, 1)))
	wantGrammar(t, "S = T 'y' ; T = 'x' ;", grammarOf("y x", "S T", rule(2, 3, 0), rule(3, 1)))
}

// P3.1: a rule stands where its alternative does, though its left side has others elsewhere.
func TestOrderOfRules(t *testing.T) {
	wantGrammar(t, "A = 'x' ; B = A ; A = B | 'y' ; B = ;",
		grammarOf("x y", "A B", rule(2, 0), rule(3, 2), rule(2, 3), rule(2, 1), rule(3)))
}

// P3.1: of alternatives that are alike the first one alone is told, within one definition and in several of one name.
func TestAlternativesThatAreAlike(t *testing.T) {
	wantGrammar(t, "S = 'a' | 'a' ;", grammarOf("a", "S", rule(1, 0)))
	wantGrammar(t, "S = | ;", grammarOf("", "S", rule(0)))
	wantGrammar(t, "S = 'a' S | 'b' | 'a' S | | 'b' | ;", grammarOf("a b", "S", rule(2, 0, 2), rule(2, 1), rule(2)))
	wantGrammar(t, "S = 'a' ; S = 'a' ;", grammarOf("a", "S", rule(1, 0)))
	wantGrammar(t, "S = T ; T = 'a' | S ; S = 'a' | T | S ; T = S ;",
		grammarOf("a", "S T", rule(1, 2), rule(2, 0), rule(2, 1), rule(1, 0), rule(1, 1)))
	wantSizes(t, strings.Repeat("S = 'a' ; T = ; ", api.MaxRules/2), 1, 2, 2)
}

// P3.1: alternatives of two names, or whose symbols are others, more, or in another order, are not alike.
func TestAlternativesThatAreNotAlike(t *testing.T) {
	wantGrammar(t, "S = 'a' ; T = 'a' ;", grammarOf("a", "S T", rule(1, 0), rule(2, 0)))
	wantGrammar(t, "S = ; T = ;", grammarOf("", "S T", rule(0), rule(1)))
	wantGrammar(t, "S = 'a' S | S 'a' ;", grammarOf("a", "S", rule(1, 0, 1), rule(1, 1, 0)))
	wantGrammar(t, "S = 'a' | 'a' 'a' | ;", grammarOf("a", "S", rule(1, 0), rule(1, 0, 0), rule(1)))
	wantGrammar(t, "S = 'ab' | 'a' 'b' ;", grammarOf("ab a b", "S", rule(3, 0), rule(3, 1, 2)))
}

// P3.1: a terminal and a nonterminal of one text are two symbols.
func TestOneTextOfTwoSymbols(t *testing.T) {
	wantGrammar(t, "S = 'S' S ;", grammarOf("S", "S", rule(1, 0, 1)))
	wantGrammar(t, "S = 'S' | S ;", grammarOf("S", "S", rule(1, 0), rule(1, 1)))
	wantGrammar(t, "a = b 'b' ; b = 'a' a ;", grammarOf("b a", "a b", rule(2, 3, 0), rule(3, 1, 2)))
	wantGrammar(t, "a = 'A' ; A = a ;", grammarOf("A", "a A", rule(1, 0), rule(2, 1)))
}

// P3.1: lex's faults.
func TestFaultsOfLex(t *testing.T) {
	wantFault(t, "S = (;", api.ErrLex, 4)
	wantFault(t, "S = '' ;", api.ErrLex, 4)
	wantFault(t, "S = 'a ;", api.ErrLex, 4)
	wantFault(t, "S = 'a' ; 9", api.ErrLex, 10)
	wantFault(t, "S = "+strings.Repeat("b", api.MaxName+1)+" ;", api.ErrLex, 4)
	wantFault(t, strings.Repeat(" ", api.MaxText+1), api.ErrLarge, 0)
	wantFault(t, "S = ;"+strings.Repeat(" ", api.MaxText), api.ErrLarge, 0)
	wantSizes(t, "S = ;"+strings.Repeat(" ", api.MaxText-5), 0, 1, 1)
}

// P3.1: read's faults.
func TestFaultsOfRead(t *testing.T) {
	wantFault(t, "= ;", api.ErrSyntax, 0)
	wantFault(t, "S 'a' ;", api.ErrSyntax, 2)
	wantFault(t, "S = = ;", api.ErrSyntax, 4)
	wantFault(t, "S = ; ;", api.ErrSyntax, 6)
	full := strings.Repeat("S = ; ", api.MaxRules)
	wantSizes(t, full, 0, 1, 1)
	wantFault(t, full+"T = ;", api.ErrLarge, len(full))
	most := strings.Repeat(" S", api.MaxRight)
	wantSizes(t, "S ="+most+" ;", 0, 1, 1)
	wantFault(t, " S ="+most+" S ;", api.ErrLarge, 1)
	wantFault(t, "S = ; T = | 'a'"+most+" ;", api.ErrLarge, 6)
}

// P3.1: the fault of a text cut short is told at its end: how many bytes it has, gaps, notes and all.
func TestTextsCutShort(t *testing.T) {
	for _, s := range []string{
		"", " ", "\n\n", "# note", "# \u00e4\n", "S", "S ", "S =", "S = ", "S = 'a'", "S = 'a' |", "S = 'a' | \t\n",
		"S = 'a' # note", "S = 'a' # ;", "S = 'a' # \u00e4\xff\n", "S = ; T", "S = ; T = # note\n", "S = T",
		strings.Repeat(" ", api.MaxText), "S =" + strings.Repeat("#", api.MaxText-3),
	} {
		wantFault(t, s, api.ErrSyntax, len(s))
	}
}

// P3.1: the first Name of a right side that is no left side.
func TestNamesThatNothingDefines(t *testing.T) {
	wantFault(t, "S = T ;", api.ErrName, 4)
	wantFault(t, "S = 'a' | S T U ;", api.ErrName, 12)
	wantFault(t, "S = U T ; U = ;", api.ErrName, 6)
	wantFault(t, "S = U ; U = S | T ; W = V ;", api.ErrName, 16)
	wantFault(t, "S = Z ; T = A ;", api.ErrName, 4)
	wantFault(t, "S = S ; T = Z A | A Z ;", api.ErrName, 12)
	wantFault(t, "S = T T ;", api.ErrName, 4)
	wantFault(t, "S = 'T' T ;", api.ErrName, 8)
	wantFault(t, "S = s ;", api.ErrName, 4)
	wantFault(t, "SS = S ;", api.ErrName, 5)
	wantFault(t, "S = ; # U = ;\nT = T | U ;", api.ErrName, 22)
	wantSizes(t, "S = T ; T = ;", 0, 2, 2)
	wantSizes(t, "S = 'T' ;", 1, 1, 1)
}

// P3.1: MaxNames nonterminals and one more.
func TestManyNames(t *testing.T) {
	many := numbered(strings.Repeat("n?='a';", api.MaxNames))
	wantSizes(t, many, 1, api.MaxNames, api.MaxNames)
	wantSizes(t, many+"n0='a';n1='a';", 1, api.MaxNames, api.MaxNames)
	wantSizes(t, many+"n0=;n1=n0 'n41';", 2, api.MaxNames, api.MaxNames+2)
	wantFault(t, many+"m='a';", api.ErrLarge, 0)
	wantFault(t, " "+many+"m=;", api.ErrLarge, 0)
	wantFault(t, numbered(strings.Repeat("n?=;", api.MaxRules)), api.ErrLarge, 0)
}

// manyTerms is a definition, not yet ended, of MaxTerms terminals in that many rules.
func manyTerms() (string, int) {
	rules := api.MaxTerms / api.MaxRight
	return numbered("S=" + strings.Repeat("|"+strings.Repeat("'t?'", api.MaxRight), rules)), rules + 1
}

// P3.1: MaxTerms terminals and one more.
func TestManyTerms(t *testing.T) {
	many, rules := manyTerms()
	again := strings.TrimPrefix(many, "S=")
	wantSizes(t, many+";", api.MaxTerms, 1, rules)
	wantSizes(t, many+again+";", api.MaxTerms, 1, rules)
	wantSizes(t, many+"|'t0''t39'|S;t0=;t40=S;", api.MaxTerms, 3, rules+4)
	wantFault(t, many+"|'u';", api.ErrLarge, 0)
	wantFault(t, " "+many+"|'t0''t40';", api.ErrLarge, 0)
	wantFault(t, many+";T='T';", api.ErrLarge, 0)
	wantFault(t, many+again+"|'t40';", api.ErrLarge, 0)
}

// numberedDefinitions is n of them, each with a terminal of its own.
func numberedDefinitions(n int) string {
	var b strings.Builder
	for i := range n {
		fmt.Fprintf(&b, "n%d='t%d';", i, i)
	}
	return b.String()
}

// P3.1: both limits at once.
func TestManyNamesAndTerms(t *testing.T) {
	most := numberedDefinitions(api.MaxNames)
	wantSizes(t, most, api.MaxTerms, api.MaxNames, api.MaxNames)
	wantFault(t, most+"x='t0';", api.ErrLarge, 0)
	wantFault(t, most+"n0='x';", api.ErrLarge, 0)
	wantFault(t, most+"x='x';", api.ErrLarge, 0)
}

// P3.1: of two faults the one that the chapter names first, wherever they stand.
func TestFirstOfTwoFaults(t *testing.T) {
	long := strings.Repeat(" S", api.MaxRight+1)
	names := numberedDefinitions(api.MaxNames + 1)
	terms, _ := manyTerms()
	terms += "|'u';"
	wantFault(t, "( = T"+strings.Repeat(" ", api.MaxText), api.ErrLarge, 0)
	wantFault(t, "= ; (", api.ErrLex, 4)
	wantFault(t, "S ="+long+" ; (", api.ErrLex, len("S ="+long+" ; "))
	wantFault(t, "S = T ; (", api.ErrLex, 8)
	wantFault(t, "S = T ; = ;", api.ErrSyntax, 8)
	wantFault(t, "S = T", api.ErrSyntax, 5)
	wantFault(t, "S = T ; U ="+long+" ;", api.ErrLarge, 8)
	for _, s := range []string{names, terms} {
		wantFault(t, s, api.ErrLarge, 0)
		wantFault(t, s+"(", api.ErrLex, len(s))
		wantFault(t, s+";", api.ErrSyntax, len(s))
		wantFault(t, s+"S", api.ErrSyntax, len(s)+1)
		wantFault(t, s+"S="+long+";", api.ErrLarge, len(s))
		wantFault(t, s+"x=y;", api.ErrName, len(s)+2)
		wantFault(t, "x=y;"+s, api.ErrName, 2)
	}
}

// P3.1, P3.3: all short definitions behind a first left side, held against the chapter's words, told by texts in place of numbers.
func TestAllShortTexts(t *testing.T) {
	eachList([]string{"A", "B", "'x'", "'A'", "=", "|", ";"}, 6, func(l []string) {
		s := "A = " + strings.Join(l, " ")
		want, f := byTexts(s)
		if f != (api.Fault{}) {
			wantFault(t, s, f.E, f.At)
			return
		}
		g, f := grammar.Of(s)
		if got := textsOf(g); f != (api.Fault{}) || got != want {
			t.Errorf("Of(%q) = %s, %v; want %s", s, got, f, want)
		}
		wantGood(t, g, true)
	})
}

// byTexts is what textsOf tells of the grammar of s, made without numbers.
func byTexts(s string) (string, api.Fault) {
	l, f := lex.Tokens(s)
	if f != (api.Fault{}) {
		return "", f
	}
	alts, f := read.Alts(l, len(s))
	if f != (api.Fault{}) {
		return "", f
	}
	var lefts, quotes, rules []string
	for _, a := range alts {
		lefts = append(lefts, a.Left.Text)
	}
	for _, a := range alts {
		r := a.Left.Text + " ="
		for _, x := range a.Right {
			switch {
			case x.Kind == api.Quote:
				quotes = append(quotes, x.Text)
				r += " '" + x.Text + "'"
			case slices.Contains(lefts, x.Text):
				r += " " + x.Text
			default:
				return "", api.Fault{E: api.ErrName, At: x.At}
			}
		}
		rules = append(rules, r)
	}
	return fmt.Sprintf("%q %q %q", eachOnce(quotes), eachOnce(lefts), eachOnce(rules)), api.Fault{}
}

// eachOnce is l without what stands in it already.
func eachOnce(l []string) []string {
	var out []string
	for i, s := range l {
		if slices.Index(l, s) == i {
			out = append(out, s)
		}
	}
	return out
}

func textsOf(g api.Grammar) string {
	var rules []string
	for _, r := range g.Rules {
		rules = append(rules, ruleText(g, r))
	}
	return fmt.Sprintf("%q %q %q", g.Terms, g.Names, rules)
}

// ruleText is r as it is written; a symbol that is none is written as what is no token.
func ruleText(g api.Grammar, r api.Rule) string {
	text := func(sym int) string {
		switch n := sym - len(g.Terms); {
		case sym < 0 || n >= len(g.Names):
			return "?"
		case n < 0:
			return "'" + g.Terms[sym] + "'"
		default:
			return g.Names[n]
		}
	}
	s := text(r.Left) + " ="
	for _, sym := range r.Right {
		s += " " + text(sym)
	}
	return s
}

// eachList hands on all lists of at most most things of l.
func eachList[T any](l []T, most int, do func([]T)) {
	var grow func(ahead []T)
	grow = func(ahead []T) {
		do(ahead)
		if len(ahead) == most {
			return
		}
		for _, x := range l {
			grow(append(slices.Clone(ahead), x))
		}
	}
	grow(nil)
}

// ordinary is a grammar that may be: A = B 'x' | ; B = 'y' 'x' | A ; A = 'x' ;
func ordinary() api.Grammar {
	return grammarOf("x y", "A B", rule(2, 3, 0), rule(2), rule(3, 1, 0), rule(3, 2), rule(2, 0))
}

// P3.2: grammars that may be.
func TestGoodGrammars(t *testing.T) {
	for _, g := range []api.Grammar{
		ordinary(),
		grammarOf("", "S", rule(0)),
		grammarOf("", "S", rule(0, 0)),
		grammarOf("S", "S", rule(1, 0), rule(1, 1)),
		grammarOf("a b", "S", rule(2, 0, 0, 1, 0, 1, 1, 2, 2)),
		grammarOf("a", "z y", rule(1, 2, 0), rule(2), rule(1, 2)),
		{Terms: []string{"a b", " ", "#"}, Names: []string{"S"}, Rules: []api.Rule{rule(3, 0, 1), rule(3, 2)}},
	} {
		wantGood(t, g, true)
	}
}

// P3.2: no grammar at all, and such as lack a list.
func TestGoodOfNothing(t *testing.T) {
	wantGood(t, api.Grammar{}, false)
	wantGood(t, api.Grammar{Terms: []string{}, Names: []string{}, Rules: []api.Rule{}}, false)
	wantGood(t, grammarOf("", "S"), false)
	wantGood(t, grammarOf("a", ""), false)
	wantGood(t, grammarOf("", "", rule(0)), false)
	wantGood(t, grammarOf("a", "", rule(0)), false)
	wantGood(t, grammarOf("a", "", rule(1, 0)), false)
	wantGood(t, grammarOf("a", "S"), false)
}

// wantNotGood: the ordinary grammar may not be any more, once that is changed.
func wantNotGood(t *testing.T, change func(g *api.Grammar)) {
	t.Helper()
	g := ordinary()
	change(&g)
	wantGood(t, g, false)
}

// P3.2: Names and Terms that are none, and two that are alike.
func TestGoodOfWrongTexts(t *testing.T) {
	long := strings.Repeat("n", api.MaxName+1)
	for _, s := range []string{"", "9", "_a", "a b", "a'", " a", "\u00e4", "a\n", long, strings.Repeat("n", 1<<20)} {
		for i := range 2 {
			wantNotGood(t, func(g *api.Grammar) { g.Names[i] = s })
		}
	}
	for _, s := range []string{"", "'", "a'", "\n", "a\t", "\x1f", "\x7f", "\u00e4", "\xff", long, strings.Repeat("t", 1<<20)} {
		for i := range 2 {
			wantNotGood(t, func(g *api.Grammar) { g.Terms[i] = s })
		}
	}
	wantNotGood(t, func(g *api.Grammar) { g.Names[1] = g.Names[0] })
	wantNotGood(t, func(g *api.Grammar) { g.Terms[1] = g.Terms[0] })
	g := ordinary()
	g.Names, g.Terms = []string{long[1:], "x"}, []string{"x", long[1:]}
	wantGood(t, g, true)
	wantGood(t, grammarOf("", "A B A", rule(0), rule(1), rule(2)), false)
	wantGood(t, grammarOf("x y x", "S", rule(3, 0, 1, 2)), false)
}

// P3.2: symbols that are none, on either side of a rule, and terminals on the left.
func TestGoodOfWrongSymbols(t *testing.T) {
	for _, sym := range []int{-1, -2, 4, 5, 1 << 32, 2 + 1<<32, 1 << 40, math.MaxInt, math.MinInt} {
		for i := range ordinary().Rules {
			wantNotGood(t, func(g *api.Grammar) { g.Rules[i].Left = sym })
			wantNotGood(t, func(g *api.Grammar) { g.Rules[i].Right = append(g.Rules[i].Right, sym) })
		}
		wantNotGood(t, func(g *api.Grammar) { g.Rules[2].Right = []int{1, 0, sym, 0} })
		wantNotGood(t, func(g *api.Grammar) { g.Rules = append(g.Rules, rule(sym)) })
	}
	for sym := range 2 {
		wantNotGood(t, func(g *api.Grammar) { g.Rules = append(g.Rules, rule(sym, 0, 0)) })
		wantNotGood(t, func(g *api.Grammar) { g.Rules[4].Left = sym })
	}
}

// P3.2: a nonterminal without a rule, a terminal that stands in none.
func TestGoodOfSymbolsWithoutRules(t *testing.T) {
	wantNotGood(t, func(g *api.Grammar) { g.Names = append(g.Names, "C") })
	wantNotGood(t, func(g *api.Grammar) { g.Terms, g.Names = []string{"x"}, []string{"y", "A", "B"} })
	wantNotGood(t, func(g *api.Grammar) { g.Rules = []api.Rule{rule(2, 0, 1, 3)} })
	wantGood(t, grammarOf("x", "A B", rule(1, 0), rule(2)), true)
	wantGood(t, grammarOf("x y", "A B", rule(2, 0), rule(3)), false)
	wantGood(t, grammarOf("x y", "A B", rule(2, 1), rule(3)), false)
	wantGood(t, grammarOf("x", "A B", rule(1)), false)
	wantGood(t, grammarOf("", "A B C", rule(0), rule(2)), false)
	wantGood(t, grammarOf("", "A B", rule(0, 1)), false)
	wantGood(t, grammarOf("", "A B", rule(1, 0)), false)
	wantGood(t, grammarOf("x", "A", rule(1, 1)), false)
}

// P3.2: two rules that are alike, side by side and apart; a nil and an empty right side are one.
func TestGoodOfRulesThatAreAlike(t *testing.T) {
	for i, r := range ordinary().Rules {
		wantNotGood(t, func(g *api.Grammar) { g.Rules = append(g.Rules, r) })
		wantNotGood(t, func(g *api.Grammar) { g.Rules = slices.Insert(g.Rules, i, r) })
	}
	wantGood(t, grammarOf("", "S", api.Rule{}, api.Rule{Right: []int{}}), false)
	wantGood(t, grammarOf("", "S T", rule(0), rule(1)), true)
	wantGood(t, grammarOf("a", "S", rule(1, 0), rule(1, 0, 0), rule(1, 0, 1), rule(1, 1, 0)), true)
}

// P3.2: Names and Terms that are not in the order in which they come first.
func TestGoodOfWrongOrders(t *testing.T) {
	wantGood(t, grammarOf("", "A B", rule(1), rule(0)), false)
	wantGood(t, grammarOf("", "A B", rule(1), rule(0, 1), rule(1, 0)), false)
	wantGood(t, grammarOf("", "A B C", rule(0), rule(2), rule(1)), false)
	wantGood(t, grammarOf("", "A B C", rule(0, 2, 1), rule(1), rule(0), rule(2)), true)
	wantGood(t, grammarOf("x y", "S", rule(2, 1, 0)), false)
	wantGood(t, grammarOf("x y", "S", rule(2, 1), rule(2, 0)), false)
	wantGood(t, grammarOf("x y z", "S", rule(3, 0, 2), rule(3, 1)), false)
	wantGood(t, grammarOf("x y z", "S", rule(3, 0), rule(3, 3, 0, 1, 0), rule(3, 1, 2)), true)
	wantGood(t, grammarOf("x y", "S T", rule(2, 3, 1), rule(3, 0)), false)
	wantNotGood(t, func(g *api.Grammar) { g.Rules[0].Right[1] = 1 })
	wantNotGood(t, func(g *api.Grammar) { g.Rules[0], g.Rules[2] = g.Rules[2], g.Rules[0] })
}

// wide is a grammar all of whose symbols stand where they must.
func wide(terms, names, rules int) api.Grammar {
	var g api.Grammar
	for i := range terms {
		g.Terms = append(g.Terms, fmt.Sprint("t", i))
	}
	for i := range names {
		g.Names = append(g.Names, fmt.Sprint("n", i))
	}
	for i := range rules {
		r := rule(terms + i%names)
		// Terms eight by eight, then what makes the rules differ.
		if low := i * api.MaxRight; low < terms {
			for sym := low; sym < min(low+api.MaxRight, terms); sym++ {
				r.Right = append(r.Right, sym)
			}
		} else {
			r.Right = []int{terms + i/names, terms, terms + i/names}
		}
		g.Rules = append(g.Rules, r)
	}
	return g
}

// P3.2: as much as there may be, and one more, of each thing by itself.
func TestGoodAtLimits(t *testing.T) {
	wantGood(t, wide(0, 1, 1), true)
	wantGood(t, wide(api.MaxTerms, api.MaxNames, api.MaxRules), true)
	wantGood(t, wide(api.MaxTerms+1, api.MaxNames, api.MaxRules), false)
	wantGood(t, wide(api.MaxTerms, api.MaxNames+1, api.MaxRules), false)
	wantGood(t, wide(api.MaxTerms, api.MaxNames, api.MaxRules+1), false)
	wantGood(t, wide(0, api.MaxNames, api.MaxRules), true)
	wantGood(t, wide(0, api.MaxNames+1, api.MaxRules), false)
	for n := range 3 * api.MaxRight {
		g := grammarOf("a", "S", rule(1, 0), api.Rule{Left: 1, Right: make([]int, n)})
		wantGood(t, g, n != 1 && n <= api.MaxRight)
	}
}

// P3.2: Good ends at once, however much it is given.
func TestGoodOfHugeLists(t *testing.T) {
	const huge = 1 << 22
	wantNotGood(t, func(g *api.Grammar) { g.Names = make([]string, huge) })
	wantNotGood(t, func(g *api.Grammar) { g.Terms = make([]string, huge) })
	wantNotGood(t, func(g *api.Grammar) { g.Rules = make([]api.Rule, huge) })
	wantNotGood(t, func(g *api.Grammar) { g.Rules[1].Right = make([]int, huge) })
}

// P3.2: a grammar may be just if it is the one of its own text: all small ones, those with wrong numbers and texts among them.
func TestAllSmallGrammars(t *testing.T) {
	right := [][]string{nil, {"x"}, {"x", "y"}}
	for _, terms := range right {
		for _, names := range right {
			wantGoodByText(t, terms, names)
		}
	}
	for _, wrong := range [][]string{{""}, {"\n"}, {"x", "x"}, {"x", "'"}} {
		wantGoodByText(t, wrong, []string{"x"})
		wantGoodByText(t, []string{"x"}, wrong)
	}
}

func wantGoodByText(t *testing.T, terms, names []string) {
	t.Helper()
	eachRules(len(terms)+len(names), func(rules []api.Rule) {
		g := api.Grammar{Terms: terms, Names: names, Rules: rules}
		wantGood(t, g, isOfItsText(g))
	})
}

// eachRules hands on lists of up to two rules of up to two symbols, and of up to three of up to one; numbers go one beyond the symbols at both ends.
func eachRules(symbols int, do func([]api.Rule)) {
	var numbers []int
	for sym := -1; sym <= symbols; sym++ {
		numbers = append(numbers, sym)
	}
	for _, most := range []struct{ rules, symbols int }{{2, 2}, {3, 1}} {
		var some []api.Rule
		for _, left := range numbers {
			eachList(numbers, most.symbols, func(right []int) {
				some = append(some, api.Rule{Left: left, Right: right})
			})
		}
		eachList(some, most.rules, do)
	}
}

func isOfItsText(g api.Grammar) bool {
	s := ""
	for _, r := range g.Rules {
		s += ruleText(g, r) + " ;\n"
	}
	made, f := grammar.Of(s)
	return f == (api.Fault{}) && same(made, g)
}

// P3.2: what each number is.
func TestSymbols(t *testing.T) {
	none := []int{-1, -2, 5, 6, 1 << 32, 1 << 40, math.MaxInt, math.MinInt}
	g := grammarOf("x A", "A B C", rule(2, 0, 1, 3, 4), rule(3), rule(4))
	for sym, want := range []string{"x", "A", "A", "B", "C"} {
		wantSymbol(t, g, sym, want, true, sym < 2)
	}
	for _, sym := range none {
		wantSymbol(t, g, sym, "", false, false)
	}
	g = grammarOf("", "S", rule(0))
	wantSymbol(t, g, 0, "S", true, false)
	for _, sym := range append(none, 1) {
		wantSymbol(t, g, sym, "", false, false)
	}
	for _, sym := range append(none, 0, 1) {
		wantSymbol(t, api.Grammar{}, sym, "", false, false)
	}
}

func wantSymbol(t *testing.T, g api.Grammar, sym int, text string, is, term bool) {
	t.Helper()
	if s, ok := grammar.Name(g, sym); s != text || ok != is {
		t.Errorf("Name(%v, %d) = %q, %v", g, sym, s, ok)
	}
	if grammar.Term(g, sym) != term {
		t.Errorf("Term(%v, %d) = %v", g, sym, !term)
	}
}

// P3.2: Term and Name do not ask whether the grammar may be.
func TestSymbolsOfWrongGrammars(t *testing.T) {
	g := api.Grammar{Terms: []string{"'", ""}, Names: []string{"", "9"}}
	for sym, want := range []string{"'", "", "", "9"} {
		wantSymbol(t, g, sym, want, true, sym < 2)
	}
	wantSymbol(t, g, -1, "", false, false)
	wantSymbol(t, g, 4, "", false, false)
	wantSymbol(t, grammarOf("a b", ""), 1, "b", true, true)
	wantSymbol(t, grammarOf("a b", ""), 2, "", false, false)
}

// P3.3: what Of tells of larger texts may be, too, and is what Of tells of its own text.
func TestWhatOfTellsMayBe(t *testing.T) {
	terms, _ := manyTerms()
	for _, s := range []string{
		"S = S S | 'a' ; S = | 'a' ; T = S T | T ; S = T ;",
		"E = E '+' E | E '*' E | '(' E ')' | N ; N = 'x' | 'y' | N N ;",
		"C = B ; A = C ; B = A 'z' 'a' 'm' ; A = 'a' | 'q' ;",
		terms + "|;T=S 't39' 't0';",
		numberedDefinitions(api.MaxNames),
		numbered(strings.Repeat("n?=n0;", api.MaxNames)) + "n0=" + strings.Repeat("|", api.MaxRules-api.MaxNames-1) + ";",
	} {
		g, f := grammar.Of(s)
		if f != (api.Fault{}) || !isOfItsText(g) {
			t.Errorf("Of(%q) = %v, %v", s, g, f)
		}
		wantGood(t, g, true)
	}
}

// withRoom is g in lists that have spare room, which is filled.
func withRoom(g api.Grammar) api.Grammar {
	g.Terms = append(slices.Clone(g.Terms), "spare")[:len(g.Terms)]
	g.Names = append(slices.Clone(g.Names), "spare")[:len(g.Names)]
	g.Rules = append(slices.Clone(g.Rules), rule(9, 9))[:len(g.Rules)]
	for i, r := range g.Rules {
		g.Rules[i].Right = append(slices.Clone(r.Right), 9)[:len(r.Right)]
	}
	return g
}

func whole[T any](l []T) []T { return l[:cap(l)] }

// roomOf is all that g's lists have, spare room included.
func roomOf(g api.Grammar) string {
	s := fmt.Sprintf("%q %q %v", whole(g.Terms), whole(g.Names), whole(g.Rules))
	for _, r := range g.Rules {
		s += fmt.Sprint(whole(r.Right))
	}
	return s
}

// Rule 2 of the document: what is handed in is not changed, its spare room included.
func TestArgumentsAreNotChanged(t *testing.T) {
	wrong := ordinary()
	wrong.Rules[0], wrong.Rules[2] = wrong.Rules[2], wrong.Rules[0]
	for _, x := range []api.Grammar{ordinary(), wrong, grammarOf("", "S", rule(0), rule(0))} {
		g := withRoom(x)
		before := roomOf(g)
		grammar.Good(g)
		for sym := range 5 {
			grammar.Term(g, sym)
			grammar.Name(g, sym)
		}
		if after := roomOf(g); after != before {
			t.Errorf("%s was changed to %s", before, after)
		}
	}
}

// Rule 2 of the document: lists of answers share no memory with each other.
func TestAnswersAreNew(t *testing.T) {
	s := "A = B 'x' | 'x' ; B = 'y' 'x' B | A ; A = ;"
	first, _ := grammar.Of(s)
	second, _ := grammar.Of(s)
	want, _ := grammar.Of(s)
	for i := range first.Rules {
		clear(whole(first.Rules[i].Right))
		for k := i + 1; k < len(first.Rules); k++ {
			if !slices.Equal(first.Rules[k].Right, want.Rules[k].Right) {
				t.Errorf("a change of right side %d made right side %d %v", i, k, first.Rules[k].Right)
			}
		}
	}
	clear(whole(first.Terms))
	if !slices.Equal(first.Names, want.Names) {
		t.Errorf("a change of Terms made Names %q", first.Names)
	}
	clear(whole(first.Names))
	clear(whole(first.Rules))
	if !same(second, want) {
		t.Errorf("a change of one answer made another one %v", second)
	}
}
