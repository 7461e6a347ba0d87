package useful_test

import (
	"fmt"
	"math"
	"runtime"
	"slices"
	"strings"
	"testing"
	"time"

	"topiarist/api"
	"topiarist/grammar"
	"topiarist/useful"
)

func rule(left int, right ...int) api.Rule { return api.Rule{Left: left, Right: right} }

// grammarOf is a grammar whose terms, and names, are parted by blanks.
func grammarOf(terms, names string, rules ...api.Rule) api.Grammar {
	return api.Grammar{Terms: strings.Fields(terms), Names: strings.Fields(names), Rules: rules}
}

// ordinary is a grammar that may be: A = B 'x' | ; B = 'y' 'x' | A ; A = 'x' ;
func ordinary() api.Grammar {
	return grammarOf("x y", "A B", rule(2, 3, 0), rule(2), rule(3, 1, 0), rule(3, 2), rule(2, 0))
}

// read is the grammar that s is the text of.
func read(t *testing.T, s string) api.Grammar {
	t.Helper()
	g, f := grammar.Of(s)
	if f != (api.Fault{}) {
		t.Fatalf("Of(%q): %v", s, f)
	}
	return g
}

// short is x for a message, cut where x is huge.
func short(x any) string {
	const most = 300
	s := fmt.Sprintf("%v", x)
	if len(s) > most {
		s = s[:most] + " .."
	}
	return s
}

// symbolsOf are the symbols of g that list names, parted by blanks, terminals in quotes.
func symbolsOf(t *testing.T, g api.Grammar, list string) []bool {
	t.Helper()
	l := make([]bool, len(g.Terms)+len(g.Names))
	for _, x := range strings.Fields(list) {
		sym := slices.Index(g.Names, x) + len(g.Terms)
		if strings.HasPrefix(x, "'") {
			sym = slices.Index(g.Terms, strings.Trim(x, "'"))
		}
		l[sym] = true
	}
	return l
}

// all is so many symbols, each of which is.
func all(n int) []bool { return slices.Repeat([]bool{true}, n) }

func wantReach(t *testing.T, g api.Grammar, from int, want []bool) {
	t.Helper()
	if l := useful.Reach(g, from); !slices.Equal(l, want) {
		t.Errorf("Reach(%s, %d) = %s; want %s", short(g), from, short(l), short(want))
	}
}

func wantProductive(t *testing.T, g api.Grammar, want []bool) {
	t.Helper()
	if l := useful.Productive(g); !slices.Equal(l, want) {
		t.Errorf("Productive(%s) = %s; want %s", short(g), short(l), short(want))
	}
}

func wantUseful(t *testing.T, g api.Grammar, want []bool) {
	t.Helper()
	if l := useful.Useful(g); !slices.Equal(l, want) {
		t.Errorf("Useful(%s) = %s; want %s", short(g), short(l), short(want))
	}
}

// wantSymbols: of the grammar that s is the text of, just these symbols are reached from the start, productive, and useful.
func wantSymbols(t *testing.T, s, reached, productive, serve string) {
	t.Helper()
	g := read(t, s)
	wantReach(t, g, len(g.Terms), symbolsOf(t, g, reached))
	wantProductive(t, g, symbolsOf(t, g, productive))
	wantUseful(t, g, symbolsOf(t, g, serve))
}

// wantAll: all symbols of the grammar that s is the text of are reached from the start, productive, and useful.
func wantAll(t *testing.T, s string) {
	t.Helper()
	g := read(t, s)
	every := all(len(g.Terms) + len(g.Names))
	wantReach(t, g, len(g.Terms), every)
	wantProductive(t, g, every)
	wantUseful(t, g, every)
}

// P7.1: grammars all of whose symbols are useful.
func TestAllAreUseful(t *testing.T) {
	wantAll(t, "S = 'a' ;")
	wantAll(t, "S = ;")
	wantAll(t, "S = 'a' S | ;")
	wantAll(t, "Sum = Sum '+' One | One ; One = 'x' | '(' Sum ')' ;")
	wantAll(t, "S = A B C ; A = 'a' ; B = 'b' A ; C = A | B ;")
	wantAll(t, "S = | S C ; C = 'c' D ; D = 'd' | C ;")
	wantAll(t, "S = A ; A = B ; B = C ; C = D ; D = E ; E = 'e' ;")
	g := ordinary()
	wantReach(t, g, 2, all(4))
	wantReach(t, g, 3, all(4))
	wantProductive(t, g, all(4))
	wantUseful(t, g, all(4))
}

// P7.1: symbols that the start does not reach, productive though they are.
func TestSymbolsThatAreNotReached(t *testing.T) {
	wantSymbols(t, "S = 'a' ; B = 'b' S ;", "'a' S", "'a' 'b' S B", "'a' S")
	wantSymbols(t, "S = 'a' ; B = ;", "'a' S", "'a' S B", "'a' S")
	wantSymbols(t, "S = A ; A = 'a' ; B = C 'a' ; C = B | 'c' ;", "'a' S A", "'a' 'c' S A B C", "'a' S A")
	wantSymbols(t, "S = ; T = 'a' S T | 'b' ;", "S", "'a' 'b' S T", "S")
	wantSymbols(t, "S = 'S' ; T = 'T' S ;", "'S' S", "'S' 'T' S T", "'S' S")
}

// P7.1: nonterminals that derive no row of tokens, which neither serve nor have others serve by their rules.
func TestSymbolsThatAreNotProductive(t *testing.T) {
	wantSymbols(t, "S = A | 'a' ; A = B ; B = A ;", "'a' S A B", "'a' S", "'a' S")
	wantSymbols(t, "S = 'a' | A 'b' | 'c' A ; A = 'd' A ;", "'a' 'b' 'c' 'd' S A", "'a' 'b' 'c' 'd' S", "'a' S")
	wantSymbols(t, "S = A B | 'a' ; A = A S | B ; B = 'b' ;", "'a' 'b' S A B", "'a' 'b' S A B", "'a' 'b' S A B")
	wantSymbols(t, "S = A B | 'a' ; A = A S ; B = 'b' ;", "'a' 'b' S A B", "'a' 'b' S B", "'a' S")
	wantSymbols(t, "S = 'a' ; B = B 'b' ;", "'a' S", "'a' 'b' S", "'a' S")
}

// P7.1: a symbol that is productive, and reached, but only through rules with something that is not productive, serves nothing.
func TestReachedOnlyByWhatIsNotProductive(t *testing.T) {
	wantSymbols(t, "S = 'a' | C A ; C = 'c' ; A = A ;", "'a' 'c' S C A", "'a' 'c' S C", "'a' S")
	wantSymbols(t, "S = 'a' | A C ; C = 'c' ; A = A ;", "'a' 'c' S C A", "'a' 'c' S C", "'a' S")
	wantSymbols(t, "S = 'a' | A ; C = 'c' ; A = A C ;", "'a' 'c' S C A", "'a' 'c' S C", "'a' S")
	// C stands beside A, and elsewhere, too.
	wantSymbols(t, "S = 'a' | C A | D ; C = 'c' ; A = A ; D = 'd' C ;", "'a' 'c' 'd' S C A D", "'a' 'c' 'd' S C D", "'a' 'c' 'd' S C D")
	// What D reaches is behind a rule that serves nothing, though D's own rules might.
	wantSymbols(t, "S = 'a' | D A ; D = E ; E = 'e' | 'a' ; A = 'x' A ;", "'a' 'e' 'x' S D E A", "'a' 'e' 'x' S D E", "'a' S")
	// The rule that does not serve stands between rules of one left side that do.
	wantSymbols(t, "S = B | C A D | E ; A = A ; B = 'b' ; C = 'c' ; D = 'd' ; E = 'e' ;", "'b' 'c' 'd' 'e' S A B C D E", "'b' 'c' 'd' 'e' S B C D E", "'b' 'e' S B E")
}

// P7.1: the chapter's example.
func TestExample(t *testing.T) {
	wantSymbols(t, "S = A | 'a' ; A = A 'b' ;", "'a' 'b' S A", "'a' 'b' S", "'a' S")
}

// P7.1: a start that is not productive: nothing is useful, whatever is reached or productive.
func TestStartsThatAreNotProductive(t *testing.T) {
	wantSymbols(t, "S = S 'x' ;", "'x' S", "'x'", "")
	wantSymbols(t, "S = S ;", "S", "", "")
	wantSymbols(t, "S = A B ; A = 'a' ; B = B ;", "'a' S A B", "'a' A", "")
	wantSymbols(t, "S = A ; A = S 'x' | 'y' A ; T = 'z' | ;", "'x' 'y' S A", "'x' 'y' 'z' T", "")
	wantSymbols(t, "S = T S | S T ; T = 't' | ;", "'t' S T", "'t' T", "")
}

// P7.1: nonterminals that go round, with a way out and without.
func TestNonterminalsThatGoRound(t *testing.T) {
	wantAll(t, "S = S S | ;")
	wantAll(t, "S = S | 'a' ;")
	wantAll(t, "S = A ; A = B ; B = S | ;")
	wantAll(t, "S = A ; A = B | S ; B = 'b' A | A 'c' S | 'd' ;")
	wantSymbols(t, "S = A ; A = B ; B = S ;", "S A B", "", "")
	wantSymbols(t, "S = 'a' | A ; A = B ; B = C ; C = A ;", "'a' S A B C", "'a' S", "'a' S")
	wantSymbols(t, "S = 'a' | A ; A = B ; B = C ; C = A | S ;", "'a' S A B C", "'a' S A B C", "'a' S A B C")
	wantSymbols(t, "S = 'a' ; A = B ; B = A | S ;", "'a' S", "'a' S A B", "'a' S")
	g := read(t, "S = 'a' | A ; A = B ; B = C 'b' ; C = A ;")
	for _, name := range []int{3, 4, 5} {
		wantReach(t, g, name, symbolsOf(t, g, "'b' A B C"))
	}
}

// P7.1: a rule of no symbols makes its left side productive, and reaches nothing.
func TestRulesOfNoSymbols(t *testing.T) {
	wantSymbols(t, "S = A ; A = B B ; B = ;", "S A B", "S A B", "S A B")
	wantSymbols(t, "S = A S | ; A = A 'a' ;", "'a' S A", "'a' S", "S")
	wantSymbols(t, "S = ; A = 'a' ;", "S", "'a' S A", "S")
	g := read(t, "S = 'a' | T | ; T = ;")
	wantReach(t, g, 2, symbolsOf(t, g, "T"))
	g.Rules[3].Right = []int{}
	wantReach(t, g, 2, symbolsOf(t, g, "T"))
	wantProductive(t, g, all(3))
	wantUseful(t, g, all(3))
}

// P7.1: from any symbol on: it reaches itself, too, and what its rules have; the start is one of many.
func TestReachFromAnySymbol(t *testing.T) {
	g := read(t, "S = 'a' T ; T = 'b' | U ; U = 'c' V ; V = | V V ;")
	for from, want := range []string{"'a'", "'b'", "'c'", "'a' 'b' 'c' S T U V", "'b' 'c' T U V", "'c' U V", "V"} {
		wantReach(t, g, from, symbolsOf(t, g, want))
	}
	// What is not productive is reached, and reaches, all the same.
	g = read(t, "S = A | 'a' ; A = A 'b' B ; B = B C ; C = 'c' ;")
	for from, want := range []string{"'a'", "'b'", "'c'", "'a' 'b' 'c' S A B C", "'b' 'c' A B C", "'c' B C", "'c' C"} {
		wantReach(t, g, from, symbolsOf(t, g, want))
	}
}

// P7.1: a terminal reaches itself alone, even where a nonterminal has its text, or its number among the names.
func TestReachFromTerminals(t *testing.T) {
	g := read(t, "S = 'S' T | 'T' ; T = 'S' S ;")
	wantReach(t, g, 0, []bool{true, false, false, false})
	wantReach(t, g, 1, []bool{false, true, false, false})
	wantReach(t, g, 2, all(4))
	wantReach(t, g, 3, all(4))
	for from := range api.MaxTerms {
		want := make([]bool, api.MaxTerms+api.MaxNames)
		want[from] = true
		wantReach(t, wide(api.MaxTerms, api.MaxNames), from, want)
	}
}

func wrongNumbers(beyond int) []int {
	return []int{-1, -2, -beyond, beyond, beyond + 1, 256, 1 << 16, 1 << 31, 1 << 32, 1 + 1<<32, 2 + 1<<32, -1 << 32, math.MaxInt, math.MinInt, math.MinInt + 1}
}

// P7.1: none from numbers below 0 and beyond all symbols.
func TestReachFromNoSymbol(t *testing.T) {
	for _, s := range []string{"S = ;", "S = T | 'a' ; T = | S ;", "S = 'a' ;", "S = S ;"} {
		g := read(t, s)
		for _, from := range wrongNumbers(len(g.Terms) + len(g.Names)) {
			wantReach(t, g, from, nil)
		}
	}
	for _, from := range wrongNumbers(api.MaxTerms + api.MaxNames) {
		wantReach(t, chain(), from, nil)
	}
	// Spare room of the names, or of the terms, is no symbol.
	g := grammarWithRoom(ordinary())
	wantReach(t, g, 3, all(4))
	wantReach(t, g, 4, nil)
}

// wide is a grammar of so many terminals and nonterminals, each of which stands where it must.
func wide(terms, names int) api.Grammar {
	var g api.Grammar
	for sym := range terms {
		g.Terms = append(g.Terms, fmt.Sprint("t", sym))
	}
	for n := range names {
		g.Names = append(g.Names, fmt.Sprint("n", n))
		g.Rules = append(g.Rules, rule(terms+n))
	}
	for sym := range terms {
		r := &g.Rules[sym/api.MaxRight]
		r.Right = append(r.Right, sym)
	}
	return g
}

// P7.1: as many symbols as there may be: the first nonterminals have all the terminals, and none has another one.
func TestManySymbols(t *testing.T) {
	g := wide(api.MaxTerms, api.MaxNames)
	wantProductive(t, g, all(api.MaxTerms+api.MaxNames))
	for n := range api.MaxNames {
		want := make([]bool, api.MaxTerms+api.MaxNames)
		want[api.MaxTerms+n] = true
		for sym := n * api.MaxRight; sym < min((n+1)*api.MaxRight, api.MaxTerms); sym++ {
			want[sym] = true
		}
		wantReach(t, g, api.MaxTerms+n, want)
		if n == 0 {
			wantUseful(t, g, want)
		}
	}
}

// chain is a grammar of as many symbols and rules as there may be, in which each nonterminal has the next one, eight times over; the last one has the right side that is given. The terminals stand in rules of every second one, about itself, which make nothing productive.
func chain(last ...int) api.Grammar {
	g := wide(api.MaxTerms, api.MaxNames)
	for n := range g.Rules {
		g.Rules[n].Right = slices.Repeat([]int{api.MaxTerms + n + 1}, api.MaxRight)
	}
	g.Rules[api.MaxNames-1].Right = last
	for sym := 0; len(g.Rules) < api.MaxRules; sym += 2 {
		g.Rules = append(g.Rules, rule(api.MaxTerms+sym, sym, api.MaxTerms+sym, sym+1))
	}
	return g
}

// span is so many symbols, of which those from one number on up to another one are.
func span(n, from, to int) []bool {
	l := make([]bool, n)
	for sym := from; sym < to; sym++ {
		l[sym] = true
	}
	return l
}

// P7.1: as many rules and symbols as there may be, each nonterminal by the one behind it, or by the one ahead of it.
func TestManyRules(t *testing.T) {
	const terms, symbols = api.MaxTerms, api.MaxTerms + api.MaxNames
	g := chain()
	if len(g.Rules) != api.MaxRules || !grammar.Good(g) {
		t.Fatal("the chain is none")
	}
	wantReach(t, g, terms, all(symbols))
	wantProductive(t, g, all(symbols))
	wantUseful(t, g, all(symbols))
	// From the nth on: those behind it, and the terminals that they have.
	for n := range api.MaxNames {
		wantReach(t, g, terms+n, slices.Concat(span(terms, n+n%2, terms), span(api.MaxNames, n, api.MaxNames)))
	}
	// The last one has a way back alone.
	g = chain(terms)
	wantReach(t, g, terms, all(symbols))
	wantReach(t, g, symbols-1, all(symbols))
	wantProductive(t, g, span(symbols, 0, terms))
	wantUseful(t, g, make([]bool, symbols))
	// The other way round: each by the one ahead of it.
	back := chain()
	for n := 1; n < api.MaxNames; n++ {
		back.Rules[n].Right = slices.Repeat([]int{terms + n - 1}, api.MaxRight)
	}
	back.Rules[0].Right = nil
	wantProductive(t, back, all(symbols))
	wantReach(t, back, symbols-1, slices.Concat(all(terms), all(api.MaxNames)))
	wantReach(t, back, terms, symbolsOf(t, back, "'t0' 't1' n0"))
	wantUseful(t, back, symbolsOf(t, back, "'t0' 't1' n0"))
	back.Rules[0].Right = []int{symbols - 1}
	wantProductive(t, back, span(symbols, 0, terms))
	wantReach(t, back, terms, all(symbols))
	wantUseful(t, back, make([]bool, symbols))
}

// P7.1: a symbol that stands in all rules, all of whose left sides are found at once.
func TestOneSymbolInAllRules(t *testing.T) {
	g := wide(0, api.MaxNames)
	for n := range g.Rules {
		g.Rules[n].Right = []int{api.MaxNames - 1}
	}
	wantProductive(t, g, make([]bool, api.MaxNames))
	wantUseful(t, g, make([]bool, api.MaxNames))
	wantReach(t, g, 0, symbolsOf(t, g, "n0 n39"))
	g.Rules[api.MaxNames-1].Right = nil
	wantProductive(t, g, all(api.MaxNames))
	wantUseful(t, g, symbolsOf(t, g, "n0 n39"))
	wantReach(t, g, 0, symbolsOf(t, g, "n0 n39"))
}

// P7.1: a start whose rules have all symbols at once.
func TestAllSymbolsOfOneNonterminal(t *testing.T) {
	g := wide(api.MaxTerms, api.MaxNames)
	for sym := 0; sym < api.MaxTerms+api.MaxNames; sym += api.MaxRight {
		right := make([]int, api.MaxRight)
		for i := range right {
			right[i] = sym + i
		}
		g.Rules = append(g.Rules, rule(api.MaxTerms, right...))
	}
	g.Rules[0].Right = nil
	for n := 1; n < api.MaxTerms/api.MaxRight; n++ {
		g.Rules[n].Right = []int{api.MaxTerms + n}
	}
	if !grammar.Good(g) {
		t.Fatal("the grammar is none")
	}
	wantReach(t, g, api.MaxTerms, all(api.MaxTerms+api.MaxNames))
	// n1 up to n4 have but themselves, and stand in one rule with n5, n6 and n7.
	productive := all(api.MaxTerms + api.MaxNames)
	for n := 1; n <= 4; n++ {
		productive[api.MaxTerms+n] = false
	}
	wantProductive(t, g, productive)
	serve := slices.Clone(productive)
	for n := 5; n <= 7; n++ {
		serve[api.MaxTerms+n] = false
	}
	wantUseful(t, g, serve)
}

// wantNothing: g may not be, so that nothing is told of it.
func wantNothing(t *testing.T, g api.Grammar) {
	t.Helper()
	for _, from := range []int{0, 1, 2, 3, 4, 41, -1, math.MaxInt} {
		wantReach(t, g, from, nil)
	}
	wantProductive(t, g, nil)
	wantUseful(t, g, nil)
}

// P7.1: grammars that may not be, for each cause that chapter 3 names.
func TestGrammarsThatMayNotBe(t *testing.T) {
	long := strings.Repeat("n", api.MaxName+1)
	for what, change := range map[string]func(g *api.Grammar){
		"nothing":             func(g *api.Grammar) { *g = api.Grammar{} },
		"no rules":            func(g *api.Grammar) { g.Rules = nil },
		"no names":            func(g *api.Grammar) { g.Names = nil },
		"no terms":            func(g *api.Grammar) { g.Terms = nil },
		"no name":             func(g *api.Grammar) { g.Names[1] = "9" },
		"an empty name":       func(g *api.Grammar) { g.Names[1] = "" },
		"a long name":         func(g *api.Grammar) { g.Names[1] = long },
		"names alike":         func(g *api.Grammar) { g.Names[1] = g.Names[0] },
		"a quote in a term":   func(g *api.Grammar) { g.Terms[1] = "'" },
		"a newline in a term": func(g *api.Grammar) { g.Terms[1] = "\n" },
		"an empty term":       func(g *api.Grammar) { g.Terms[1] = "" },
		"a long term":         func(g *api.Grammar) { g.Terms[1] = long },
		"terms alike":         func(g *api.Grammar) { g.Terms[1] = g.Terms[0] },
		"a name without rule": func(g *api.Grammar) { g.Names = append(g.Names, "C") },
		"a term in no rule":   func(g *api.Grammar) { g.Rules[2].Right = nil },
		"a left of a term":    func(g *api.Grammar) { g.Rules[4].Left = 0 },
		"a left below 0":      func(g *api.Grammar) { g.Rules[4].Left = -1 },
		"a left behind all":   func(g *api.Grammar) { g.Rules[4].Left = 4 },
		"a symbol below 0":    func(g *api.Grammar) { g.Rules[4].Right[0] = math.MinInt },
		"a symbol behind all": func(g *api.Grammar) { g.Rules[4].Right[0] = 4 },
		"a huge symbol":       func(g *api.Grammar) { g.Rules[4].Right[0] = 1 << 32 },
		"rules alike":         func(g *api.Grammar) { g.Rules[4] = g.Rules[0] },
		"names out of order":  func(g *api.Grammar) { g.Rules = append([]api.Rule{rule(3)}, g.Rules...) },
		"terms out of order":  func(g *api.Grammar) { g.Rules[0].Right[1] = 1 },
		"a long right side":   func(g *api.Grammar) { g.Rules[4].Right = slices.Repeat([]int{2}, api.MaxRight+1) },
		"a huge right side":   func(g *api.Grammar) { g.Rules[4].Right = slices.Repeat([]int{2}, 1<<22) },
		"many rules":          func(g *api.Grammar) { *g = manyRules(api.MaxRules + 1) },
		"many terms":          func(g *api.Grammar) { *g = wide(api.MaxTerms+1, api.MaxNames) },
		"many names":          func(g *api.Grammar) { *g = wide(api.MaxTerms, api.MaxNames+1) },
		"huge terms":          func(g *api.Grammar) { g.Terms = make([]string, 1<<22) },
		"huge names":          func(g *api.Grammar) { g.Names = make([]string, 1<<22) },
		"huge rules":          func(g *api.Grammar) { g.Rules = make([]api.Rule, 1<<22) },
	} {
		t.Run(what, func(t *testing.T) {
			g := ordinary()
			change(&g)
			wantNothing(t, g)
		})
	}
}

// manyRules is a grammar of one nonterminal, one terminal and so many rules, no two of which are alike.
func manyRules(n int) api.Grammar {
	g := grammarOf("a", "S", rule(1))
	for i := 1; i < n; i++ {
		var right []int
		for rest := i; rest > 0; rest /= 2 {
			right = append(right, rest%2)
		}
		g.Rules = append(g.Rules, rule(1, right...))
	}
	return g
}

// P7.1: just as many rules as there may be.
func TestJustEnoughRules(t *testing.T) {
	for _, n := range []int{api.MaxRules, api.MaxRules - 1} {
		g := manyRules(n)
		wantReach(t, g, 1, all(2))
		wantReach(t, g, 0, []bool{true, false})
		wantProductive(t, g, all(2))
		wantUseful(t, g, all(2))
	}
}

// formsOf are all forms of at most so many symbols that sym derives by forms of no more, itself, too.
func formsOf(g api.Grammar, sym, most int) [][]int {
	forms, seen := [][]int{{sym}}, map[string]bool{fmt.Sprint([]int{sym}): true}
	for i := 0; i < len(forms); i++ {
		form := forms[i]
		for at, sym := range form {
			for _, r := range g.Rules {
				next := slices.Concat(form[:at], r.Right, form[at+1:])
				if key := fmt.Sprint(next); r.Left == sym && len(next) <= most && !seen[key] {
					seen[key] = true
					forms = append(forms, next)
				}
			}
		}
	}
	return forms
}

// derivesTokens goes by derivations, from form to form, each time of the first nonterminal; tokens ahead of it are dropped. What derives tokens alone does so by forms of at most that many symbols.
func derivesTokens(g api.Grammar, sym, most int) bool {
	seen := map[string]bool{}
	var try func(form []int) bool
	try = func(form []int) bool {
		for len(form) > 0 && form[0] < len(g.Terms) {
			form = form[1:]
		}
		key := fmt.Sprint(form)
		if len(form) == 0 {
			return true
		}
		if len(form) > most || seen[key] {
			return false
		}
		seen[key] = true
		for _, r := range g.Rules {
			if r.Left == form[0] && try(slices.Concat(r.Right, form[1:])) {
				return true
			}
		}
		return false
	}
	return try([]int{sym})
}

// standIn are the symbols of the forms of which fits holds.
func standIn(g api.Grammar, forms [][]int, fits func(form []int) bool) []bool {
	l := make([]bool, len(g.Terms)+len(g.Names))
	for _, form := range forms {
		if fits(form) {
			for _, sym := range form {
				l[sym] = true
			}
		}
	}
	return l
}

// eachGrammar hands on all grammars of those symbols and of up to most rules, with right sides of up to long symbols.
func eachGrammar(terms, names string, most, long int, do func(api.Grammar)) {
	g := grammarOf(terms, names)
	symbols := len(g.Terms) + len(g.Names)
	rights := [][]int{nil}
	for from := 0; len(rights[from]) < long; from++ {
		for sym := range symbols {
			rights = append(rights, append(slices.Clone(rights[from]), sym))
		}
	}
	var grow func()
	grow = func() {
		if grammar.Good(g) {
			do(g)
		}
		if len(g.Rules) == most {
			return
		}
		for left := len(g.Terms); left < symbols; left++ {
			for _, right := range rights {
				g.Rules = append(g.Rules, rule(left, right...))
				grow()
				g.Rules = g.Rules[:len(g.Rules)-1]
			}
		}
	}
	grow()
}

// wantDerived: what is told of g is so by its derivations. A symbol is reached by at most as many steps as there are nonterminals, and tokens are derived by trees of no greater depth, so that with right sides of two the forms have at most one symbol more.
func wantDerived(t *testing.T, g api.Grammar) {
	t.Helper()
	most := len(g.Names) + 1
	productive := make([]bool, len(g.Terms)+len(g.Names))
	for sym := range productive {
		productive[sym] = derivesTokens(g, sym, most)
		wantReach(t, g, sym, standIn(g, formsOf(g, sym, most), func([]int) bool { return true }))
	}
	wantProductive(t, g, productive)
	wantUseful(t, g, standIn(g, formsOf(g, len(g.Terms), most), func(form []int) bool {
		return !slices.ContainsFunc(form, func(sym int) bool { return !productive[sym] })
	}))
}

// wantBoth: what is useful is reached, and productive.
func wantBoth(t *testing.T, g api.Grammar) {
	t.Helper()
	reached, productive, serve := useful.Reach(g, len(g.Terms)), useful.Productive(g), useful.Useful(g)
	if len(reached) != len(g.Terms)+len(g.Names) || len(productive) != len(reached) || len(serve) != len(reached) {
		t.Fatalf("%s: %v %v %v", short(g), reached, productive, serve)
	}
	for sym, is := range serve {
		if is && (!reached[sym] || !productive[sym]) {
			t.Errorf("%s: %d is useful; reached %v, productive %v", short(g), sym, reached[sym], productive[sym])
		}
	}
}

// P7.1, P7.2: all small grammars, held against their derivations.
func TestAllSmallGrammars(t *testing.T) {
	seen := 0
	check := func(g api.Grammar) {
		seen++
		wantDerived(t, g)
		wantBoth(t, g)
	}
	eachGrammar("", "S", 3, 2, check)
	eachGrammar("a", "S", 3, 2, check)
	eachGrammar("a", "S T", 3, 2, check)
	eachGrammar("", "S T U", 3, 2, check)
	eachGrammar("a b", "S T U", 4, 1, check)
	if seen < 5000 {
		t.Errorf("%d grammars alone", seen)
	}
}

// P7.2: what is useful is reached, and productive; but what is both need not be useful.
func TestWhatIsUsefulIsBoth(t *testing.T) {
	for _, s := range []string{
		"S = 'a' ;", "S = S ;", "S = A | 'a' ; A = A 'b' ;", "S = 'a' ; B = 'b' S ;",
		"S = 'a' | C A ; C = 'c' ; A = A ;", "S = A B ; A = 'a' ; B = B ; C = A ;",
		"S = A B | B C | C A ; A = 'a' | ; B = B 'b' ; C = C C | A A ; D = D | A ;",
	} {
		wantBoth(t, read(t, s))
	}
	wantBoth(t, ordinary())
	wantBoth(t, chain())
	wantBoth(t, chain(api.MaxTerms))
	wantBoth(t, wide(api.MaxTerms, api.MaxNames))
	wantBoth(t, manyRules(api.MaxRules))
	g := read(t, "S = 'a' | C A ; C = 'c' ; A = A ;")
	if c := 3; !useful.Reach(g, 2)[c] || !useful.Productive(g)[c] || useful.Useful(g)[c] {
		t.Error("C is reached, and productive, and not useful")
	}
}

func whole[T any](l []T) []T { return l[:cap(l)] }

// withRoom is l in a list that has spare room, which is filled.
func withRoom[T any](l []T, spare T) []T {
	return append(slices.Clone(l), spare, spare)[:len(l)]
}

// grammarWithRoom is g in lists that have spare room, which is filled.
func grammarWithRoom(g api.Grammar) api.Grammar {
	g.Terms = withRoom(g.Terms, "spare")
	g.Names = withRoom(g.Names, "spare")
	g.Rules = withRoom(g.Rules, rule(9, 9))
	for i, r := range g.Rules {
		g.Rules[i].Right = withRoom(r.Right, 9)
	}
	return g
}

// roomOf is all that g's lists have, spare room included.
func roomOf(g api.Grammar) string {
	s := fmt.Sprintf("%q %q %v", whole(g.Terms), whole(g.Names), whole(g.Rules))
	for _, r := range g.Rules {
		s += fmt.Sprint(whole(r.Right))
	}
	return s
}

// Rule 2 of the document: what is handed in is not changed, its spare room included.
func TestArgumentsAreNotChanged(t *testing.T) {
	wrong := ordinary()
	wrong.Rules[4].Right[0] = 7
	partly := read(t, "S = A B | 'a' | C ; A = A ; B = 'b' ; C = A | 'c' ;")
	for _, x := range []api.Grammar{ordinary(), wrong, partly, chain()} {
		g := grammarWithRoom(x)
		before := roomOf(g)
		for from := range 6 {
			useful.Reach(g, from)
		}
		useful.Productive(g)
		useful.Useful(g)
		if after := roomOf(g); after != before {
			t.Errorf("%s was changed to %s", before, after)
		}
	}
}

// Rule 2 of the document: what is told is new memory.
func TestAnswersAreNew(t *testing.T) {
	ask := func(g api.Grammar) [][]bool {
		return [][]bool{useful.Reach(g, len(g.Terms)), useful.Reach(g, 0), useful.Productive(g), useful.Useful(g)}
	}
	for _, s := range []string{"S = A | 'a' ; A = A 'b' ;", "S = 'a' ;", "S = S 'x' ;"} {
		g := read(t, s)
		want := fmt.Sprint(ask(g))
		first, second := ask(g), ask(g)
		for _, l := range first {
			for i := range whole(l) {
				whole(l)[i] = !whole(l)[i]
			}
		}
		if fmt.Sprint(second) != want || fmt.Sprint(ask(g)) != want {
			t.Errorf("%s: one list was handed out twice", s)
		}
		// Among those of one round, too: each was changed once.
		for i, l := range first {
			for sym := range l {
				if l[sym] == second[i][sym] {
					t.Errorf("%s: lists %v share memory", s, first)
				}
			}
		}
	}
}

// Rules 2 and 4 of the document: nil and empty lists are one, and neither what was told before nor what stands in spare room is to be seen in an answer.
func TestAnswersHangOnArgumentsAlone(t *testing.T) {
	empty := api.Grammar{Terms: []string{}, Names: []string{"S"}, Rules: []api.Rule{{Right: []int{}}}}
	for range 300 {
		wantReach(t, empty, 0, all(1))
		wantProductive(t, empty, all(1))
		wantUseful(t, empty, all(1))
		wantNothing(t, api.Grammar{})
		wantReach(t, grammarWithRoom(ordinary()), 3, all(4))
		wantProductive(t, grammarWithRoom(ordinary()), all(4))
		wantUseful(t, grammarWithRoom(ordinary()), all(4))
		wantSymbols(t, "S = S ;", "S", "", "")
		wantSymbols(t, "S = A | 'a' ; A = A 'b' ;", "'a' 'b' S A", "'a' 'b' S", "'a' S")
		wantUseful(t, chain(api.MaxTerms), make([]bool, api.MaxTerms+api.MaxNames))
	}
}

// Rule 5 of the document: what goroutines a call begins are over when it ends.
func TestGoroutinesAreOver(t *testing.T) {
	before := runtime.NumGoroutine()
	for range 200 {
		for _, g := range []api.Grammar{ordinary(), chain(), chain(api.MaxTerms), {}} {
			useful.Reach(g, len(g.Terms))
			useful.Reach(g, -1)
			useful.Productive(g)
			useful.Useful(g)
		}
	}
	// A goroutine that is over may be counted for a moment.
	for wait := 0; runtime.NumGoroutine() > before && wait < 1000; wait++ {
		time.Sleep(time.Millisecond)
	}
	if after := runtime.NumGoroutine(); after > before {
		t.Errorf("%d goroutines go on", after-before)
	}
}
