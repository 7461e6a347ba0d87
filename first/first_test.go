package first_test

import (
	"fmt"
	"math"
	"runtime"
	"slices"
	"strings"
	"testing"
	"time"

	"topiarist/api"
	"topiarist/first"
	"topiarist/grammar"
	"topiarist/nullable"
)

func rule(left int, right ...int) api.Rule { return api.Rule{Left: left, Right: right} }

// grammarOf is a grammar whose terms, and names, are parted by blanks.
func grammarOf(terms, names string, rules ...api.Rule) api.Grammar {
	return api.Grammar{Terms: strings.Fields(terms), Names: strings.Fields(names), Rules: rules}
}

// ordinary is a grammar that may be: A = B 'x' | ; B = 'y' 'x' | A ; A = 'x' ;
func ordinary() api.Grammar {
	return grammarOf("x y", "A B", rule(2, 3, 0), rule(2), rule(3, 1, 0), rule(3, 2), rule(2, 0))
}

// read is the grammar that s is the text of.
func read(t *testing.T, s string) api.Grammar {
	t.Helper()
	g, f := grammar.Of(s)
	if f != (api.Fault{}) {
		t.Fatalf("Of(%q): %v", s, f)
	}
	return g
}

// short is x for a message, cut where x is huge.
func short(x any) string {
	const most = 300
	s := fmt.Sprintf("%v", x)
	if len(s) > most {
		s = s[:most] + " .."
	}
	return s
}

// row is the symbols that list names, parted by blanks, terminals in quotes.
func row(t *testing.T, g api.Grammar, list string) []int {
	t.Helper()
	var l []int
	for _, x := range strings.Fields(list) {
		sym := slices.Index(g.Names, x) + len(g.Terms)
		if strings.HasPrefix(x, "'") {
			sym = slices.Index(g.Terms, strings.Trim(x, "'"))
		}
		l = append(l, sym)
	}
	return l
}

// terms are the terminals that list names, rising.
func terms(g api.Grammar, list string) []int {
	var l []int
	for term, text := range g.Terms {
		if slices.Contains(strings.Fields(list), text) {
			l = append(l, term)
		}
	}
	return l
}

// span is the numbers from one on up to another one.
func span(from, to int) []int {
	var l []int
	for n := from; n < to; n++ {
		l = append(l, n)
	}
	return l
}

func wantOf(t *testing.T, g api.Grammar, l, want []int) {
	t.Helper()
	if got, e := first.Of(g, l); e != api.OK || !slices.Equal(got, want) {
		t.Errorf("Of(%s, %s) = %s, %d; want %s", short(g), short(l), short(got), e, short(want))
	}
}

func wantErrArg(t *testing.T, g api.Grammar, l []int) {
	t.Helper()
	if got, e := first.Of(g, l); e != api.ErrArg || len(got) != 0 {
		t.Errorf("Of(%s, %s) = %s, %d; want ErrArg", short(g), short(l), short(got), e)
	}
}

// wantSets: of the nonterminals, in the order of Names, these are the sets; each terminal's is itself. Of a symbol alone Of tells its set.
func wantSets(t *testing.T, g api.Grammar, want [][]int) {
	t.Helper()
	var all [][]int
	for term := range g.Terms {
		all = append(all, []int{term})
	}
	all = append(all, want...)
	if got := first.Sets(g); !slices.EqualFunc(got, all, slices.Equal[[]int]) {
		t.Errorf("Sets(%s) = %s; want %s", short(g), short(got), short(all))
	}
	for sym, l := range all {
		wantOf(t, g, []int{sym}, l)
	}
}

// wantNames: of the grammar that s is the text of, the nonterminals begin with these terminals, in the order of Names.
func wantNames(t *testing.T, s string, want ...string) {
	t.Helper()
	g := read(t, s)
	var sets [][]int
	for _, list := range want {
		sets = append(sets, terms(g, list))
	}
	wantSets(t, g, sets)
}

// wantRow: the symbols that list names, in a row, begin with these terminals.
func wantRow(t *testing.T, g api.Grammar, list, want string) {
	t.Helper()
	wantOf(t, g, row(t, g, list), terms(g, want))
}

// P8.1: rules that begin with what may not be nothing.
func TestOrdinaryGrammars(t *testing.T) {
	wantNames(t, "S = 'a' ;", "a")
	wantNames(t, "S = 'a' 'b' | 'c' ;", "a c")
	wantNames(t, "S = A 'b' | 'c' B ; A = 'a' 'd' ; B = 'b' | A ;", "a c", "a", "a b")
	wantNames(t, "S = A ; A = B ; B = C ; C = D ; D = 'd' | 'e' ;", "d e", "d e", "d e", "d e", "d e")
	wantNames(t, "D = 'd' | 'e' ; C = D ; B = C ; A = B ; S = A ;", "d e", "d e", "d e", "d e", "d e")
	wantNames(t, "S = 'if' S 'then' S | Call ; Call = 'id' '(' Args ')' ; Args = S | S ',' Args ;", "if id", "id", "if id")
	wantSets(t, ordinary(), [][]int{{0, 1}, {0, 1}})
}

// P8.1: the chapter's example: S begins with a, b.
func TestExample(t *testing.T) {
	g := read(t, "S = A 'b' ; A = 'a' | ;")
	wantSets(t, g, [][]int{{0, 1}, {1}})
	wantRow(t, g, "S", "a b")
	wantRow(t, g, "A", "a")
	wantRow(t, g, "A 'b'", "a b")
}

// P8.1: rules that begin with symbols that may be nothing: what stands behind them counts, up to the first one that may not.
func TestSymbolsThatMayBeNothing(t *testing.T) {
	wantNames(t, "S = A B 'c' ; A = | 'a' ; B = A | 'b' B ;", "a b c", "a", "a b")
	wantNames(t, "S = A B C 'x' ; A = 'a' | ; B = 'b' ; C = 'c' | ;", "a b", "a", "b", "c")
	wantNames(t, "S = A A A 'x' 'y' ; A = 'a' | ;", "a x", "a")
	wantNames(t, "S = A B ; A = 'a' | ; B = 'b' | ;", "a b", "a", "b")
	wantNames(t, "S = A 'x' | B 'y' ; A = B ; B = C C ; C = 'c' | ;", "c x y", "c", "c", "c")
	wantNames(t, "S = A B C D E F G 'h' ; A = 'a' | ; B = 'b' | ; C = 'c' | ; D = 'd' | ; E = 'e' | ; F = 'f' | ; G = 'g' | ;",
		"a b c d e f g h", "a", "b", "c", "d", "e", "f", "g")
	// Nothing by others, several rules deep, defined behind what begins with it.
	wantNames(t, "S = A 'x' ; A = B B ; B = C D ; C = | 'c' ; D = C C | 'd' D ;", "c d x", "c d", "c d", "c", "c d")
}

// P8.1: recursion to the left, openly and hidden behind what may be nothing, by itself and by others.
func TestRecursionToTheLeft(t *testing.T) {
	wantNames(t, "S = S 'a' | ;", "a")
	wantNames(t, "S = S 'a' | 'b' ;", "b")
	wantNames(t, "Sum = Sum '+' One | One ; One = 'x' | '(' Sum ')' ;", "x (", "x (")
	wantNames(t, "S = S S | 'a' ;", "a")
	wantNames(t, "S = S S 'b' | 'a' | ;", "a b")
	wantNames(t, "S = A S 'c' | 'b' ; A = 'a' | ;", "a b", "a")
	wantNames(t, "S = A 'x' | 'y' ; A = B 'z' | 'w' ; B = S 'v' | 'u' ;", "y w u", "w y u", "u y w")
	wantNames(t, "S = A S 'x' | B ; A = S | 'a' | ; B = A B 'y' | 'b' ;", "a b", "a b", "a b")
}

// P8.1: nonterminals that stand in a circle begin with what any of them does.
func TestNonterminalsThatGoRound(t *testing.T) {
	wantNames(t, "S = A | 's' ; A = B | 'a' ; B = C | 'b' ; C = S | 'c' ;", "s a b c", "s a b c", "s a b c", "s a b c")
	wantNames(t, "S = 's' A ; A = B | 'a' ; B = A | 'b' ;", "s", "a b", "a b")
	wantNames(t, "S = A | 's' ; A = A ; B = S | A ;", "s", "", "s")
	wantNames(t, "S = S | 'a' ;", "a")
}

// P8.1, P8.2: what derives nothing but nothing begins with nothing, and what stands behind it counts.
func TestNothingButNothing(t *testing.T) {
	wantNames(t, "S = ;", "")
	wantNames(t, "S = S S | ;", "")
	wantNames(t, "S = A 'x' ; A = B A | B ; B = ;", "x", "", "")
	wantNames(t, "S = A 'x' ; A = A | 'y' A | B ; B = ;", "x y", "y", "")
	wantNames(t, "S = E E E 'a' E ; E = ;", "a", "")
	g := read(t, "S = A B 'x' ; A = B B ; B = | A ;")
	for _, list := range []string{"", "A", "B", "A B", "B B B A A B"} {
		wantRow(t, g, list, "")
		wantRow(t, g, list+" 'x'", "x")
	}
}

// P8.1: symbols that are not productive count as they stand: they may not be nothing, and the terminals they begin with are told.
func TestSymbolsThatAreNotProductive(t *testing.T) {
	wantNames(t, "S = T ; T = T 'x' ;", "", "")
	wantNames(t, "S = N 'a' | 'b' ; N = N 'c' ;", "b", "")
	wantNames(t, "S = N 'a' | 'b' ; N = N ;", "b", "")
	wantNames(t, "S = N 'a' | 'b' ; N = 'n' N ;", "n b", "n")
	wantNames(t, "S = A N 'a' ; A = 'b' | ; N = 'n' N | N 'm' ;", "b n", "b", "n")
	wantNames(t, "S = 'a' N | M ; N = M N ; M = 'm' N ;", "a m", "m", "m")
	g := read(t, "S = N 'a' | 'b' | 'c' M ; N = N ; M = 'm' M ; E = ;")
	wantRow(t, g, "N 'a'", "")
	wantRow(t, g, "E N 'a'", "")
	wantRow(t, g, "M 'a'", "m")
	wantRow(t, g, "'a' N", "a")
}

// P8.1: what the start does not reach is told, too.
func TestSymbolsThatAreNotReached(t *testing.T) {
	wantNames(t, "S = 'a' ; B = 'b' S | C ; C = S 'c' ;", "a", "a b", "a")
}

// P8.1: a terminal begins with itself, even where a nonterminal has its text.
func TestTerminals(t *testing.T) {
	g := read(t, "S = 'T' S | T ; T = 'S' | ;")
	wantSets(t, g, [][]int{{0, 1}, {1}})
	wantRow(t, g, "'T'", "T")
	wantRow(t, g, "'S'", "S")
	wantRow(t, g, "'S' 'T'", "S")
	wantRow(t, g, "'T' S T", "T")
	wantRow(t, g, "T 'T' 'S'", "S T")
}

// P8.1: symbols in a row, like a rule's right side.
func TestRows(t *testing.T) {
	g := read(t, "S = A 'b' ; A = 'a' | ; C = 'c' C | A 'd' A ;")
	wantRow(t, g, "A A", "a")
	wantRow(t, g, "A 'b' 'a'", "a b")
	wantRow(t, g, "S 'c'", "a b")
	wantRow(t, g, "S C", "a b")
	wantRow(t, g, "C S", "a c d")
	wantRow(t, g, "A S", "a b")
	wantRow(t, g, "A A A C 'b'", "a c d")
	wantRow(t, g, "'b' A", "b")
	wantRow(t, g, "'d' 'c' 'b'", "d")
	for i, want := range []string{"a b", "a", "", "c", "a d"} {
		wantOf(t, g, g.Rules[i].Right, terms(g, want))
	}
}

// P8.1, P8.2: of no symbols in a row: nothing, whatever the grammar.
func TestRowsOfNoSymbols(t *testing.T) {
	for _, s := range []string{"S = ;", "S = 'a' ;", "S = S ;", "S = A 'b' ; A = 'a' | ;"} {
		wantOf(t, read(t, s), nil, nil)
		wantOf(t, read(t, s), []int{}, nil)
		wantOf(t, read(t, s), []int{0, 0}[:0], nil)
	}
}

// P8.1: of symbols all of which may be nothing: all their terminals.
func TestRowsThatMayBeNothing(t *testing.T) {
	g := read(t, "S = A B C ; A = 'a' | ; B = 'b' B | ; C = | 'c' A ; E = ;")
	wantRow(t, g, "S", "a b c")
	wantRow(t, g, "C A", "a c")
	wantRow(t, g, "C B A", "a b c")
	wantRow(t, g, "B E B E", "b")
	wantRow(t, g, "E E C", "c")
	wantRow(t, g, "E S E", "a b c")
}

// P8.1: each list rises, and has nothing twice, whatever the order in which the terminals are found.
func TestListsRise(t *testing.T) {
	const text = "Z = 'a' 'b' 'c' 'd' 'e' ; S = E | D | C | 'a' | B | 'a' 'a' | B B ; B = 'b' | C | 'b' 'c' ; C = 'c' | 'a' | D ; D = 'd' | E C ; E = 'e' | ;"
	wantNames(t, text, "a", "a b c d e", "a b c d e", "a c d e", "a c d e", "e")
	g := read(t, text)
	wantRow(t, g, "E D C B", "a c d e")
	wantRow(t, g, "E E E D", "a c d e")
	wantRow(t, g, "E 'a'", "a e")
	wantRow(t, g, "E 'e'", "e")
	wantRow(t, g, "E E 'd'", "d e")
	for _, l := range slices.Concat(first.Sets(g), first.Sets(chain()), first.Sets(full())) {
		if !slices.IsSorted(l) || len(slices.Compact(slices.Clone(l))) != len(l) {
			t.Errorf("%v does not rise", l)
		}
	}
}

// P8.1: rows have no limit of symbols.
func TestLongRows(t *testing.T) {
	// The terminals: a 0, b 1, c 2.
	g := read(t, "A = 'a' | ; B = | 'b' ; S = A B 'c' ;")
	const c, a, b, s = 2, 3, 4, 5
	for _, n := range []int{api.MaxRight, api.MaxRight + 1, api.MaxWord + 1, 1 << 16, 1 << 22} {
		l := slices.Repeat([]int{b}, n)
		wantOf(t, g, l, []int{1})
		l[n-1] = a
		wantOf(t, g, l, []int{0, 1})
		l[n-1] = c
		wantOf(t, g, l, []int{1, 2})
		l[n-2] = s
		wantOf(t, g, l, []int{0, 1, 2})
		l[0] = c
		wantOf(t, g, l, []int{2})
		l[n-1] = 6
		wantErrArg(t, g, l)
		l[n-1] = -1
		wantErrArg(t, g, l)
	}
	wantOf(t, full(), slices.Repeat(span(api.MaxTerms, api.MaxTerms+20), 1<<16), span(0, api.MaxTerms))
}

func wrongNumbers(beyond int) []int {
	return []int{-1, -2, -beyond, beyond, beyond + 1, 256, 1 << 16, 1 << 31, 1 << 32, 1 + 1<<32, 2 + 1<<32, -1 << 32, math.MaxInt, math.MinInt, math.MinInt + 1}
}

// P8.1: ErrArg for a number below 0 or beyond all symbols, wherever it stands: behind what may be nothing, and behind what may not.
func TestNumbersOfNoSymbol(t *testing.T) {
	g := read(t, "S = A 'b' ; A = 'a' | ;")
	for _, wrong := range wrongNumbers(4) {
		wantErrArg(t, g, []int{wrong})
		for _, list := range []string{"A A A A", "'a' 'b' S A", "S S S S", "A 'b' A S"} {
			for at := range 4 {
				l := row(t, g, list)
				l[at] = wrong
				wantErrArg(t, g, l)
			}
		}
	}
	wantErrArg(t, g, wrongNumbers(4))
	wantOf(t, read(t, "S = ;"), []int{0}, nil)
	wantErrArg(t, read(t, "S = ;"), []int{1})
	wantErrArg(t, read(t, "S = ;"), []int{0, -1})
	for _, wrong := range wrongNumbers(api.MaxTerms + api.MaxNames) {
		wantErrArg(t, chain(), []int{wrong})
		wantErrArg(t, chain(), []int{0, wrong})
	}
	// Spare room of the names, or of the terms, is no symbol.
	g = grammarWithRoom(ordinary())
	wantOf(t, g, []int{3}, []int{0, 1})
	wantErrArg(t, g, []int{4})
	// Nor is what stands in the row's spare room asked.
	wantOf(t, g, withRoom([]int{2}, -1), []int{0, 1})
}

// wide is a grammar of so many terminals and nonterminals, each of which stands where it must.
func wide(terms, names int) api.Grammar {
	var g api.Grammar
	for sym := range terms {
		g.Terms = append(g.Terms, fmt.Sprint("t", sym))
	}
	for n := range names {
		g.Names = append(g.Names, fmt.Sprint("n", n))
		g.Rules = append(g.Rules, rule(terms+n))
	}
	for sym := range terms {
		r := &g.Rules[sym/api.MaxRight]
		r.Right = append(r.Right, sym)
	}
	return g
}

// P8.1: as many symbols as there may be: the first nonterminals have all the terminals.
func TestManySymbols(t *testing.T) {
	want := make([][]int, api.MaxNames)
	for n := range api.MaxTerms / api.MaxRight {
		want[n] = []int{n * api.MaxRight}
	}
	wantSets(t, wide(api.MaxTerms, api.MaxNames), want)
}

// chain is a grammar of as many symbols and rules as there may be, in which each nonterminal begins with the next one, eight times over, and the last one with every second terminal.
func chain() api.Grammar {
	g := wide(api.MaxTerms, api.MaxNames)
	for n := range g.Rules {
		g.Rules[n].Right = slices.Repeat([]int{api.MaxTerms + n + 1}, api.MaxRight)
	}
	last := api.MaxTerms + api.MaxNames - 1
	g.Rules[api.MaxNames-1].Right = []int{last, last}
	for sym := 0; len(g.Rules) < api.MaxRules; sym += 2 {
		g.Rules = append(g.Rules, rule(last, sym, sym+1))
	}
	return g
}

// full is a grammar of as many terminals and rules as there may be, whose nonterminals may be nothing; of 20 of them each begins with the next one, and with two terminals more.
func full() api.Grammar {
	g := wide(api.MaxTerms, 20)
	g.Rules = nil
	for n := range g.Names {
		left := api.MaxTerms + n
		g.Rules = append(g.Rules, rule(left, left+1, 2*n), rule(left, left, 2*n+1), rule(left))
	}
	g.Rules[len(g.Rules)-3].Right = []int{api.MaxTerms - 2}
	return g
}

// P8.1: as many rules and symbols as there may be, each nonterminal by the one behind it, or by the one ahead of it.
func TestManyRules(t *testing.T) {
	g := chain()
	if len(g.Rules) != api.MaxRules || !grammar.Good(g) {
		t.Fatal("the chain is none")
	}
	var even []int
	for sym := 0; sym < api.MaxTerms; sym += 2 {
		even = append(even, sym)
	}
	wantSets(t, g, slices.Repeat([][]int{even}, api.MaxNames))
	wantOf(t, g, span(api.MaxTerms, api.MaxTerms+api.MaxNames), even)
	// The other way round: the first one alone has terminals of its own.
	back := chain()
	for n := range api.MaxNames {
		back.Rules[n].Right = slices.Repeat([]int{api.MaxTerms + n - 1}, api.MaxRight)
	}
	back.Rules[0].Right = []int{api.MaxTerms, api.MaxTerms}
	for i := range back.Rules[api.MaxNames:] {
		back.Rules[api.MaxNames+i].Left = api.MaxTerms
	}
	wantSets(t, back, slices.Repeat([][]int{even}, api.MaxNames))
}

// P8.1: a nonterminal, and a terminal, that stands first in rules of all nonterminals, all of which grow at once.
func TestOneSymbolInAllRules(t *testing.T) {
	g := chain()
	want := first.Sets(g)[api.MaxTerms:]
	for n := range api.MaxNames - 1 {
		g.Rules[n].Right = []int{api.MaxTerms + api.MaxNames - 1}
	}
	wantSets(t, g, want)
	g = wide(api.MaxTerms, api.MaxNames)
	for n := range g.Rules {
		g.Rules[n].Right = append([]int{0}, span(7*n, min(7*n+7, api.MaxTerms))...)
		want[n] = []int{0}
	}
	for n := range api.MaxRules - api.MaxNames {
		g.Rules = append(g.Rules, rule(api.MaxTerms+n, 1, 0))
		want[n] = []int{0, 1}
	}
	if !grammar.Good(g) {
		t.Fatal("the grammar is none")
	}
	wantSets(t, g, want)
}

// P8.1: sets of as many terminals as there may be.
func TestFullSets(t *testing.T) {
	g := full()
	if len(g.Rules) != api.MaxRules || !grammar.Good(g) {
		t.Fatal("the grammar is none")
	}
	var want [][]int
	for n := range g.Names {
		want = append(want, span(2*n, api.MaxTerms))
	}
	wantSets(t, g, want)
	// All in one circle: each has all.
	g.Rules[len(g.Rules)-1].Right = []int{api.MaxTerms}
	wantSets(t, g, slices.Repeat([][]int{span(0, api.MaxTerms)}, len(g.Names)))
}

// manyRules is a grammar of one nonterminal, one terminal and so many rules, no two of which are alike.
func manyRules(n int) api.Grammar {
	g := grammarOf("a", "S", rule(1))
	for i := 1; i < n; i++ {
		var right []int
		for rest := i; rest > 0; rest /= 2 {
			right = append(right, rest%2)
		}
		g.Rules = append(g.Rules, rule(1, right...))
	}
	return g
}

// P8.1: just as many rules as there may be.
func TestJustEnoughRules(t *testing.T) {
	wantSets(t, manyRules(api.MaxRules), [][]int{{0}})
	wantSets(t, manyRules(api.MaxRules-1), [][]int{{0}})
}

// wantNothing: g may not be, so that nothing is told of it.
func wantNothing(t *testing.T, g api.Grammar) {
	t.Helper()
	if l := first.Sets(g); len(l) != 0 {
		t.Errorf("Sets(%s) = %s", short(g), short(l))
	}
	for _, l := range [][]int{nil, {}, {0}, {2}, {3}, {2, 3, 2}, {-1}, {99}, make([]int, 1<<16)} {
		wantErrArg(t, g, l)
	}
}

// P8.1: grammars that may not be, for each cause that chapter 3 names.
func TestGrammarsThatMayNotBe(t *testing.T) {
	long := strings.Repeat("n", api.MaxName+1)
	for what, change := range map[string]func(g *api.Grammar){
		"nothing":             func(g *api.Grammar) { *g = api.Grammar{} },
		"no rules":            func(g *api.Grammar) { g.Rules = nil },
		"no names":            func(g *api.Grammar) { g.Names = nil },
		"no terms":            func(g *api.Grammar) { g.Terms = nil },
		"no name":             func(g *api.Grammar) { g.Names[1] = "9" },
		"an empty name":       func(g *api.Grammar) { g.Names[1] = "" },
		"a long name":         func(g *api.Grammar) { g.Names[1] = long },
		"names alike":         func(g *api.Grammar) { g.Names[1] = g.Names[0] },
		"a quote in a term":   func(g *api.Grammar) { g.Terms[1] = "'" },
		"a newline in a term": func(g *api.Grammar) { g.Terms[1] = "\n" },
		"an empty term":       func(g *api.Grammar) { g.Terms[1] = "" },
		"a long term":         func(g *api.Grammar) { g.Terms[1] = long },
		"terms alike":         func(g *api.Grammar) { g.Terms[1] = g.Terms[0] },
		"a name without rule": func(g *api.Grammar) { g.Names = append(g.Names, "C") },
		"a term in no rule":   func(g *api.Grammar) { g.Rules[2].Right = nil },
		"a left of a term":    func(g *api.Grammar) { g.Rules[4].Left = 0 },
		"a left below 0":      func(g *api.Grammar) { g.Rules[4].Left = -1 },
		"a left behind all":   func(g *api.Grammar) { g.Rules[4].Left = 4 },
		"a symbol below 0":    func(g *api.Grammar) { g.Rules[4].Right[0] = math.MinInt },
		"a symbol behind all": func(g *api.Grammar) { g.Rules[4].Right[0] = 4 },
		"a huge symbol":       func(g *api.Grammar) { g.Rules[4].Right[0] = 1 << 32 },
		"rules alike":         func(g *api.Grammar) { g.Rules[4] = g.Rules[0] },
		"names out of order":  func(g *api.Grammar) { g.Rules = append([]api.Rule{rule(3)}, g.Rules...) },
		"terms out of order":  func(g *api.Grammar) { g.Rules[0].Right[1] = 1 },
		"a long right side":   func(g *api.Grammar) { g.Rules[4].Right = slices.Repeat([]int{2}, api.MaxRight+1) },
		"a huge right side":   func(g *api.Grammar) { g.Rules[4].Right = slices.Repeat([]int{2}, 1<<22) },
		"many rules":          func(g *api.Grammar) { *g = manyRules(api.MaxRules + 1) },
		"many terms":          func(g *api.Grammar) { *g = wide(api.MaxTerms+1, api.MaxNames) },
		"many names":          func(g *api.Grammar) { *g = wide(api.MaxTerms, api.MaxNames+1) },
		"huge terms":          func(g *api.Grammar) { g.Terms = make([]string, 1<<22) },
		"huge names":          func(g *api.Grammar) { g.Names = make([]string, 1<<22) },
		"huge rules":          func(g *api.Grammar) { g.Rules = make([]api.Rule, 1<<22) },
	} {
		t.Run(what, func(t *testing.T) {
			g := ordinary()
			change(&g)
			wantNothing(t, g)
		})
	}
}

// beginsWith goes by derivations, each time of the first symbol, and tells which terminals come to stand first. Forms are cut to that many symbols: what stands behind does not come to stand first ahead of the cut.
func beginsWith(g api.Grammar, form []int, most int) []int {
	forms, seen := [][]int{form}, map[string]bool{fmt.Sprint(form): true}
	var found []int
	for i := 0; i < len(forms); i++ {
		form := forms[i]
		if len(form) == 0 {
			continue
		}
		if form[0] < len(g.Terms) {
			found = append(found, form[0])
			continue
		}
		for _, r := range g.Rules {
			if r.Left != form[0] {
				continue
			}
			next := slices.Concat(r.Right, form[1:])
			next = next[:min(len(next), most)]
			if key := fmt.Sprint(next); !seen[key] {
				seen[key] = true
				forms = append(forms, next)
			}
		}
	}
	slices.Sort(found)
	return slices.Compact(found)
}

// eachGrammar hands on all grammars of those symbols and of up to most rules, with right sides of up to long symbols.
func eachGrammar(terms, names string, most, long int, do func(api.Grammar)) {
	g := grammarOf(terms, names)
	symbols := len(g.Terms) + len(g.Names)
	rights := [][]int{nil}
	for from := 0; len(rights[from]) < long; from++ {
		for sym := range symbols {
			rights = append(rights, append(slices.Clone(rights[from]), sym))
		}
	}
	var grow func()
	grow = func() {
		if grammar.Good(g) {
			do(g)
		}
		if len(g.Rules) == most {
			return
		}
		for left := len(g.Terms); left < symbols; left++ {
			for _, right := range rights {
				g.Rules = append(g.Rules, rule(left, right...))
				grow()
				g.Rules = g.Rules[:len(g.Rules)-1]
			}
		}
	}
	grow()
}

// wantDerived: what is told of g, and of all rows of up to two of its symbols, is so by derivations. With right sides of two a symbol comes to nothing by forms of at most as many symbols as there are nonterminals: so much, and what is left of the row, is kept.
func wantDerived(t *testing.T, g api.Grammar) {
	t.Helper()
	most := len(g.Names) + 3
	var want [][]int
	symbols := len(g.Terms) + len(g.Names)
	for sym := range symbols {
		want = append(want, beginsWith(g, []int{sym}, most))
		for next := range symbols {
			wantOf(t, g, []int{sym, next}, beginsWith(g, []int{sym, next}, most))
		}
	}
	wantSets(t, g, want[len(g.Terms):])
}

// wantRowsLikeSymbols: a row begins with what its first symbol begins with, and, just if that may be nothing, with what the rest begins with.
func wantRowsLikeSymbols(t *testing.T, g api.Grammar, l []int) {
	t.Helper()
	sets := first.Sets(g)
	var want []int
	for i, sym := range l {
		if nullable.All(g, l[:i]) {
			want = append(want, sets[sym]...)
		}
	}
	slices.Sort(want)
	wantOf(t, g, l, slices.Compact(want))
}

// P8.1, P8.2: all small grammars, held against their derivations.
func TestAllSmallGrammars(t *testing.T) {
	seen := 0
	check := func(g api.Grammar) {
		seen++
		wantDerived(t, g)
		for _, r := range g.Rules {
			wantRowsLikeSymbols(t, g, slices.Concat(r.Right, g.Rules[0].Right, r.Right))
		}
	}
	eachGrammar("", "S", 3, 2, check)
	eachGrammar("a", "S", 3, 2, check)
	eachGrammar("a b", "S", 3, 2, check)
	eachGrammar("a", "S T", 3, 2, check)
	eachGrammar("a b", "S T U", 4, 1, check)
	if seen < 4000 {
		t.Errorf("%d grammars alone", seen)
	}
}

// P8.2: what derives no token at all, and nothing else, begins with nothing, alone and in a row.
func TestWhatIsNothing(t *testing.T) {
	seen := 0
	eachGrammar("a", "S T U", 3, 2, func(g api.Grammar) {
		const e = 3
		if l := g.Rules[len(g.Rules)-1]; l.Left != e || len(l.Right) != 0 {
			return
		}
		seen++
		wantOf(t, g, []int{e}, nil)
		wantOf(t, g, []int{e, e, e}, nil)
		wantOf(t, g, []int{e, 0, e}, []int{0})
		wantRowsLikeSymbols(t, g, []int{e, 2, e, 1, 2})
	})
	if seen < 200 {
		t.Errorf("%d grammars alone", seen)
	}
}

func whole[T any](l []T) []T { return l[:cap(l)] }

// withRoom is l in a list that has spare room, which is filled.
func withRoom[T any](l []T, spare T) []T {
	return append(slices.Clone(l), spare, spare)[:len(l)]
}

// grammarWithRoom is g in lists that have spare room, which is filled.
func grammarWithRoom(g api.Grammar) api.Grammar {
	g.Terms = withRoom(g.Terms, "spare")
	g.Names = withRoom(g.Names, "spare")
	g.Rules = withRoom(g.Rules, rule(9, 9))
	for i, r := range g.Rules {
		g.Rules[i].Right = withRoom(r.Right, 9)
	}
	return g
}

// roomOf is all that g's lists have, spare room included.
func roomOf(g api.Grammar) string {
	s := fmt.Sprintf("%q %q %v", whole(g.Terms), whole(g.Names), whole(g.Rules))
	for _, r := range g.Rules {
		s += fmt.Sprint(whole(r.Right))
	}
	return s
}

// Rule 2 of the document: what is handed in is not changed, its spare room included.
func TestArgumentsAreNotChanged(t *testing.T) {
	wrong := ordinary()
	wrong.Rules[4].Right[0] = 7
	for _, x := range []api.Grammar{ordinary(), wrong, chain(), full()} {
		g, l := grammarWithRoom(x), withRoom([]int{3, 2, 3, 0, 1, -1}, 9)
		state := func() string { return roomOf(g) + fmt.Sprint(whole(l)) }
		before := state()
		first.Sets(g)
		for n := range l {
			first.Of(g, l[:n])
			first.Of(g, l[n:])
		}
		for _, r := range g.Rules {
			first.Of(g, r.Right)
		}
		if after := state(); after != before {
			t.Errorf("%s was changed to %s", before, after)
		}
	}
}

// spoil writes over all that the lists have, spare room included.
func spoil(lists ...[]int) {
	for _, l := range lists {
		for i := range whole(l) {
			whole(l)[i] = -7
		}
	}
}

// Rule 2 of the document: what is told is new memory: no two lists of one answer, no two answers, and no answer and an argument share any.
func TestAnswersAreNew(t *testing.T) {
	for _, g := range []api.Grammar{ordinary(), chain(), full(), read(t, "S = A 'b' ; A = 'a' | ;")} {
		want := first.Sets(g)
		for n := range want {
			l := first.Sets(g)
			spoil(l[n])
			l[n] = want[n]
			if !slices.EqualFunc(l, want, slices.Equal[[]int]) {
				t.Errorf("%s: list %d shares memory with others of its answer", short(g), n)
			}
			// Behind the lists' ends, too.
			l = first.Sets(g)
			l[n] = append(l[n], -7)
			l[n] = want[n]
			if !slices.EqualFunc(l, want, slices.Equal[[]int]) {
				t.Errorf("%s: list %d has room in common with others of its answer", short(g), n)
			}
		}
		kept := first.Sets(g)
		spoil(first.Sets(g)...)
		if !slices.EqualFunc(kept, want, slices.Equal[[]int]) {
			t.Errorf("%s: one list was handed out twice", short(g))
		}
		for sym, set := range want {
			l := []int{sym}
			one, _ := first.Of(g, l)
			two, _ := first.Of(g, l)
			spoil(one)
			if !slices.Equal(two, set) || l[0] != sym {
				t.Errorf("%s: Of(%d) shares memory", short(g), sym)
			}
		}
		wantSets(t, g, want[len(g.Terms):])
	}
}

// Rules 2 and 4 of the document: nil and empty lists are one, and neither what was told before nor what stands in spare room is to be seen in an answer.
func TestAnswersHangOnArgumentsAlone(t *testing.T) {
	empty := api.Grammar{Terms: []string{}, Names: []string{"S"}, Rules: []api.Rule{{Right: []int{}}}}
	for range 200 {
		wantSets(t, empty, [][]int{nil})
		wantNothing(t, api.Grammar{})
		wantSets(t, grammarWithRoom(ordinary()), [][]int{{0, 1}, {0, 1}})
		wantErrArg(t, ordinary(), []int{2, 3, 4})
		wantNames(t, "S = S ;", "")
		wantNames(t, "S = A 'b' ; A = 'a' | ;", "a b", "a")
		wantNames(t, "S = A 'b' ; A = 'a' ;", "a", "a")
		wantOf(t, chain(), nil, nil)
		wantOf(t, full(), []int{api.MaxTerms + 19, 0}, []int{0, 38, 39})
	}
}

// Rule 5 of the document: what goroutines a call begins are over when it ends.
func TestGoroutinesAreOver(t *testing.T) {
	before := runtime.NumGoroutine()
	for range 200 {
		for _, g := range []api.Grammar{ordinary(), chain(), full(), {}} {
			first.Sets(g)
			first.Of(g, []int{3, 2})
			first.Of(g, []int{2, -1, 3})
		}
	}
	// A goroutine that is over may be counted for a moment.
	for wait := 0; runtime.NumGoroutine() > before && wait < 1000; wait++ {
		time.Sleep(time.Millisecond)
	}
	if after := runtime.NumGoroutine(); after > before {
		t.Errorf("%d goroutines go on", after-before)
	}
}
