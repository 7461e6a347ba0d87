package nullable_test

import (
	"fmt"
	"math"
	"runtime"
	"slices"
	"strings"
	"testing"
	"time"

	"topiarist/api"
	"topiarist/grammar"
	"topiarist/nullable"
)

func rule(left int, right ...int) api.Rule { return api.Rule{Left: left, Right: right} }

// grammarOf is a grammar whose terms, and names, are parted by blanks.
func grammarOf(terms, names string, rules ...api.Rule) api.Grammar {
	return api.Grammar{Terms: strings.Fields(terms), Names: strings.Fields(names), Rules: rules}
}

// ordinary is a grammar that may be: A = B 'x' | ; B = 'y' 'x' | A ; A = 'x' ;
func ordinary() api.Grammar {
	return grammarOf("x y", "A B", rule(2, 3, 0), rule(2), rule(3, 1, 0), rule(3, 2), rule(2, 0))
}

// read is the grammar that s is the text of.
func read(t *testing.T, s string) api.Grammar {
	t.Helper()
	g, f := grammar.Of(s)
	if f != (api.Fault{}) {
		t.Fatalf("Of(%q): %v", s, f)
	}
	return g
}

// short is x for a message, cut where x is huge.
func short(x any) string {
	const most = 300
	s := fmt.Sprintf("%v", x)
	if len(s) > most {
		s = s[:most] + " .."
	}
	return s
}

func wantRule(t *testing.T, g api.Grammar, r int, want bool) {
	t.Helper()
	if nullable.Rule(g, r) != want {
		t.Errorf("Rule(%s, %d) = %v", short(g), r, !want)
	}
}

func wantAll(t *testing.T, g api.Grammar, l []int, want bool) {
	t.Helper()
	if nullable.All(g, l) != want {
		t.Errorf("All(%s, %s) = %v", short(g), short(l), !want)
	}
}

// wantSymbols: just those symbols of g for which want holds may be nothing; rules, and lists, of them may just if all their symbols do.
func wantSymbols(t *testing.T, g api.Grammar, want []bool) {
	t.Helper()
	if l := nullable.Of(g); !slices.Equal(l, want) {
		t.Errorf("Of(%s) = %v; want %v", short(g), l, want)
		return
	}
	for i, r := range g.Rules {
		all := true
		for _, sym := range r.Right {
			all = all && want[sym]
		}
		wantRule(t, g, i, all)
		wantAll(t, g, r.Right, all)
	}
	for sym, is := range want {
		wantAll(t, g, []int{sym}, is)
	}
}

// wantNames: just those nonterminals of the grammar that s is the text of may be nothing.
func wantNames(t *testing.T, s string, names ...string) {
	t.Helper()
	g := read(t, s)
	want := make([]bool, len(g.Terms)+len(g.Names))
	for _, name := range names {
		want[len(g.Terms)+slices.Index(g.Names, name)] = true
	}
	wantSymbols(t, g, want)
}

// P6.1, P6.2: grammars of which nothing may be nothing.
func TestNothingMayBeNothing(t *testing.T) {
	wantNames(t, "S = 'a' ;")
	wantNames(t, "S = 'a' S | 'b' ;")
	wantNames(t, "Sum = Sum '+' One | One ; One = 'x' | '(' Sum ')' ;")
	wantNames(t, "S = A B C ; A = 'a' ; B = 'b' A ; C = A | B ;")
}

// P6.1, P6.2: grammars all of whose nonterminals may be nothing.
func TestAllMayBeNothing(t *testing.T) {
	wantNames(t, "S = ;", "S")
	wantNames(t, "S = 'a' S | ;", "S")
	wantNames(t, "S = '(' S ')' | ;", "S")
	wantNames(t, "S = A B ; A = B | 'a' ; B = ;", "S", "A", "B")
	wantNames(t, "S = 'a' ; S = ; T = S S S ; U = 'b' | T ;", "S", "T", "U")
}

// P6.1, P6.2: some may, others of the same grammar may not.
func TestSomeMayBeNothing(t *testing.T) {
	wantSymbols(t, ordinary(), []bool{false, false, true, true})
	wantNames(t, "S = A 'x' ; A = B ; B = ;", "A", "B")
	wantNames(t, "S = A B ; A = ; B = 'b' ;", "A")
	wantNames(t, "S = B A ; A = ; B = 'b' ;", "A")
	wantNames(t, "S = A B A ; A = ; B = 'b' ;", "A")
	wantNames(t, "S = A B | B A | A A C ; A = ; B = 'b' ; C = A 'c' | 'c' A ;", "A")
	wantNames(t, "S = A 'x' | A B | B A ; A = | 'a' ; B = 'b' | A A ;", "S", "A", "B")
}

// P6.1, P6.2: nonterminals that may be nothing only by others, several rules deep, whichever of them is defined first.
func TestNothingSeveralRulesDeep(t *testing.T) {
	wantNames(t, "S = A ; A = B ; B = C ; C = D ; D = ;", "S", "A", "B", "C", "D")
	wantNames(t, "D = ; C = D ; B = C ; A = B ; S = A ;", "S", "A", "B", "C", "D")
	wantNames(t, "B = C C ; S = A 's' | A B ; D = ; C = 'c' C | D ; A = B | 'a' A ;", "S", "A", "B", "C", "D")
	wantNames(t, "S = S | A ; A = S | B ; B = 'x' B | C ; C = ;", "S", "A", "B", "C")
	wantNames(t, "S = A ; A = B ; B = C ; C = D ; D = 'd' ;")
	wantNames(t, "S = A B ; A = C D ; B = D E ; C = E F ; D = F F ; E = F ; F = ;", "S", "A", "B", "C", "D", "E", "F")
	wantNames(t, "S = A B ; A = C D ; B = D E ; C = E F ; D = F F ; E = F G ; F = ; G = 'g' ;", "D", "F")
}

// P6.1, P6.2: nonterminals that go round: a rule that needs its own left side makes nothing of it.
func TestNonterminalsThatGoRound(t *testing.T) {
	wantNames(t, "S = S S | ;", "S")
	wantNames(t, "S = S ;")
	wantNames(t, "S = S S ;")
	wantNames(t, "S = S | 'a' ;")
	wantNames(t, "S = S | ;", "S")
	wantNames(t, "S = A 'a' ; A = A A ;")
	wantNames(t, "S = A ; A = B ; B = S ;")
	wantNames(t, "S = A ; A = B ; B = S | ;", "S", "A", "B")
	wantNames(t, "S = A | 'x' ; A = B C ; B = A | ; C = S ;", "B")
	wantNames(t, "S = A | T ; A = S A ; T = A T | ;", "S", "T")
	wantNames(t, "S = A | T ; A = S A | T ; T = A T | ;", "S", "A", "T")
}

// P6.1: the chapter's example: S = S S | ; does.
func TestExample(t *testing.T) {
	g := read(t, "S = S S | ;")
	if l := nullable.Of(g); !slices.Equal(l, []bool{true}) {
		t.Errorf("Of = %v", l)
	}
	wantRule(t, g, 0, true)
	wantRule(t, g, 1, true)
	wantAll(t, g, []int{0, 0, 0}, true)
}

// P6.1: a rule of no symbols does, though others of its left side do not.
func TestRulesOfNoSymbols(t *testing.T) {
	g := read(t, "S = 'a' | T | ; T = 'b' ;")
	wantRule(t, g, 0, false)
	wantRule(t, g, 1, false)
	wantRule(t, g, 2, true)
	wantRule(t, g, 3, false)
	g.Rules[2].Right = []int{}
	wantRule(t, g, 2, true)
	wantSymbols(t, g, []bool{false, false, true, false})
}

// P6.1: terminals never, alone or beside others, not even where a nonterminal of one text does.
func TestTerminals(t *testing.T) {
	g := read(t, "S = 'S' S | 'T' T | ; T = ;")
	wantSymbols(t, g, []bool{false, false, true, true})
	wantAll(t, g, []int{2, 3, 0}, false)
	wantAll(t, g, []int{1, 2, 3}, false)
	wantAll(t, g, []int{2, 0, 3}, false)
	wantAll(t, g, []int{2, 3, 2}, true)
}

// P6.1: All is true of no symbols, of whatever grammar that may be.
func TestAllOfNoSymbols(t *testing.T) {
	for _, s := range []string{"S = ;", "S = 'a' ;", "S = S ;", "S = A 'a' ; A = A A ;"} {
		wantAll(t, read(t, s), nil, true)
		wantAll(t, read(t, s), []int{}, true)
		wantAll(t, read(t, s), []int{0, 0}[:0], true)
	}
}

// P6.1: All has no limit of symbols.
func TestAllOfLongLists(t *testing.T) {
	g := ordinary()
	for _, n := range []int{api.MaxRight, api.MaxRight + 1, api.MaxWord + 1, 1 << 16, 1 << 22} {
		l := slices.Repeat([]int{3}, n)
		wantAll(t, g, l, true)
		for _, wrong := range []int{0, 4, -1} {
			l[n-1] = wrong
			wantAll(t, g, l, false)
			l[n-1] = 2
		}
		wantAll(t, g, l, true)
		l[0] = 1
		wantAll(t, g, l, false)
	}
}

func wrongNumbers(beyond int) []int {
	return []int{-1, -2, -beyond, beyond, beyond + 1, 256, 1 << 16, 1 << 31, 1 << 32, 1 + 1<<32, 2 + 1<<32, -1 << 32, math.MaxInt, math.MinInt, math.MinInt + 1}
}

// P6.1: false of rules' numbers below 0 and beyond all rules.
func TestRulesThatAreNone(t *testing.T) {
	for _, s := range []string{"S = ;", "S = T | 'a' ; T = | S ;", "S = 'a' ;"} {
		g := read(t, s)
		for _, r := range wrongNumbers(len(g.Rules)) {
			wantRule(t, g, r, false)
		}
	}
	// Spare room of the rules is no rule.
	g := read(t, "S = ; T = ;")
	g.Rules = withRoom(g.Rules, rule(0))
	wantRule(t, g, 1, true)
	wantRule(t, g, 2, false)
}

// P6.1: false of a list with a number that is no symbol's, wherever it stands.
func TestNumbersOfNoSymbol(t *testing.T) {
	g := read(t, "S = T | 'a' ; T = | S ;")
	for _, sym := range wrongNumbers(3) {
		wantAll(t, g, []int{sym}, false)
		for at := range 5 {
			l := slices.Repeat([]int{1}, 5)
			wantAll(t, g, l, true)
			l[at] = sym
			wantAll(t, g, l, false)
		}
	}
	wantAll(t, g, wrongNumbers(3), false)
	wantAll(t, read(t, "S = ;"), []int{0}, true)
	wantAll(t, read(t, "S = ;"), []int{1}, false)
	wantAll(t, read(t, "S = ;"), []int{-1}, false)
}

// wide is a grammar of so many terminals and nonterminals, each of which stands where it must.
func wide(terms, names int) api.Grammar {
	var g api.Grammar
	for sym := range terms {
		g.Terms = append(g.Terms, fmt.Sprint("t", sym))
	}
	for n := range names {
		g.Names = append(g.Names, fmt.Sprint("n", n))
		g.Rules = append(g.Rules, rule(terms+n))
	}
	for sym := range terms {
		r := &g.Rules[sym/api.MaxRight]
		r.Right = append(r.Right, sym)
	}
	return g
}

// P6.1, P6.2: as many symbols as there may be: the first nonterminals have all the terminals.
func TestManySymbols(t *testing.T) {
	want := make([]bool, api.MaxTerms+api.MaxNames)
	for sym := api.MaxTerms + api.MaxTerms/api.MaxRight; sym < len(want); sym++ {
		want[sym] = true
	}
	wantSymbols(t, wide(api.MaxTerms, api.MaxNames), want)
}

// chain is a grammar of as many symbols and rules as there may be, in which each nonterminal may be nothing only by the next one, eight times over; the last one has the right side that is given.
func chain(last ...int) api.Grammar {
	g := wide(api.MaxTerms, api.MaxNames)
	for n := range g.Rules {
		g.Rules[n].Right = slices.Repeat([]int{api.MaxTerms + n + 1}, api.MaxRight)
	}
	g.Rules[api.MaxNames-1].Right = last
	for sym := 0; len(g.Rules) < api.MaxRules; sym += 2 {
		g.Rules = append(g.Rules, rule(api.MaxTerms+sym, sym, sym+1))
	}
	return g
}

// P6.1, P6.2: as many rules and symbols as there may be, each nonterminal by the one behind it, or by the one ahead of it.
func TestManyRules(t *testing.T) {
	none := make([]bool, api.MaxTerms+api.MaxNames)
	all := slices.Concat(make([]bool, api.MaxTerms), slices.Repeat([]bool{true}, api.MaxNames))
	g := chain()
	if len(g.Rules) != api.MaxRules || !grammar.Good(g) {
		t.Fatal("the chain is none")
	}
	wantSymbols(t, g, all)
	wantSymbols(t, chain(0), none)
	wantSymbols(t, chain(api.MaxTerms), none)
	back := chain()
	for n := range api.MaxNames {
		back.Rules[n].Right = slices.Repeat([]int{api.MaxTerms + n - 1}, api.MaxRight)
	}
	back.Rules[0].Right = nil
	wantSymbols(t, back, all)
	back.Rules[0].Right = []int{api.MaxTerms + api.MaxNames - 1}
	wantSymbols(t, back, none)
}

// P6.1, P6.2: a symbol that stands in all rules, all of which change at once.
func TestOneSymbolInAllRules(t *testing.T) {
	g := wide(0, api.MaxNames)
	for n := range g.Rules {
		g.Rules[n].Right = []int{api.MaxNames - 1}
	}
	wantSymbols(t, g, make([]bool, api.MaxNames))
	g.Rules[api.MaxNames-1].Right = nil
	wantSymbols(t, g, slices.Repeat([]bool{true}, api.MaxNames))
	for n := 0; len(g.Rules) < api.MaxRules; n++ {
		g.Rules = append(g.Rules, rule(n, n, n))
	}
	wantSymbols(t, g, slices.Repeat([]bool{true}, api.MaxNames))
}

// wantNothing: g may not be, so that nothing is told of it.
func wantNothing(t *testing.T, g api.Grammar) {
	t.Helper()
	if l := nullable.Of(g); len(l) != 0 {
		t.Errorf("Of(%s) = %s", short(g), short(l))
	}
	for r := -1; r < 7; r++ {
		wantRule(t, g, r, false)
	}
	for _, l := range [][]int{nil, {}, {0}, {2}, {3}, {2, 3, 2}, {-1}, make([]int, 1<<16)} {
		wantAll(t, g, l, false)
	}
}

// P6.1: grammars that may not be, for each cause that chapter 3 names.
func TestGrammarsThatMayNotBe(t *testing.T) {
	long := strings.Repeat("n", api.MaxName+1)
	for what, change := range map[string]func(g *api.Grammar){
		"nothing":             func(g *api.Grammar) { *g = api.Grammar{} },
		"no rules":            func(g *api.Grammar) { g.Rules = nil },
		"no names":            func(g *api.Grammar) { g.Names = nil },
		"no terms":            func(g *api.Grammar) { g.Terms = nil },
		"no name":             func(g *api.Grammar) { g.Names[1] = "9" },
		"an empty name":       func(g *api.Grammar) { g.Names[1] = "" },
		"a long name":         func(g *api.Grammar) { g.Names[1] = long },
		"names alike":         func(g *api.Grammar) { g.Names[1] = g.Names[0] },
		"a quote in a term":   func(g *api.Grammar) { g.Terms[1] = "'" },
		"a newline in a term": func(g *api.Grammar) { g.Terms[1] = "\n" },
		"an empty term":       func(g *api.Grammar) { g.Terms[1] = "" },
		"a long term":         func(g *api.Grammar) { g.Terms[1] = long },
		"terms alike":         func(g *api.Grammar) { g.Terms[1] = g.Terms[0] },
		"a name without rule": func(g *api.Grammar) { g.Names = append(g.Names, "C") },
		"a term in no rule":   func(g *api.Grammar) { g.Rules[2].Right = nil },
		"a left of a term":    func(g *api.Grammar) { g.Rules[4].Left = 0 },
		"a left below 0":      func(g *api.Grammar) { g.Rules[4].Left = -1 },
		"a left behind all":   func(g *api.Grammar) { g.Rules[4].Left = 4 },
		"a symbol below 0":    func(g *api.Grammar) { g.Rules[4].Right[0] = math.MinInt },
		"a symbol behind all": func(g *api.Grammar) { g.Rules[4].Right[0] = 4 },
		"a huge symbol":       func(g *api.Grammar) { g.Rules[4].Right[0] = 1 << 32 },
		"rules alike":         func(g *api.Grammar) { g.Rules[4] = g.Rules[0] },
		"names out of order":  func(g *api.Grammar) { g.Rules = append([]api.Rule{rule(3)}, g.Rules...) },
		"terms out of order":  func(g *api.Grammar) { g.Rules[0].Right[1] = 1 },
		"a long right side":   func(g *api.Grammar) { g.Rules[4].Right = slices.Repeat([]int{2}, api.MaxRight+1) },
		"a huge right side":   func(g *api.Grammar) { g.Rules[4].Right = slices.Repeat([]int{2}, 1<<22) },
		"many rules":          func(g *api.Grammar) { *g = manyRules(api.MaxRules + 1) },
		"many terms":          func(g *api.Grammar) { *g = wide(api.MaxTerms+1, api.MaxNames) },
		"many names":          func(g *api.Grammar) { *g = wide(api.MaxTerms, api.MaxNames+1) },
		"huge terms":          func(g *api.Grammar) { g.Terms = make([]string, 1<<22) },
		"huge names":          func(g *api.Grammar) { g.Names = make([]string, 1<<22) },
		"huge rules":          func(g *api.Grammar) { g.Rules = make([]api.Rule, 1<<22) },
	} {
		t.Run(what, func(t *testing.T) {
			g := ordinary()
			change(&g)
			wantNothing(t, g)
		})
	}
}

// manyRules is a grammar of one nonterminal, one terminal and so many rules, no two of which are alike.
func manyRules(n int) api.Grammar {
	g := grammarOf("a", "S", rule(1))
	for i := 1; i < n; i++ {
		var right []int
		for rest := i; rest > 0; rest /= 2 {
			right = append(right, rest%2)
		}
		g.Rules = append(g.Rules, rule(1, right...))
	}
	return g
}

// P6.1: just as many rules as there may be.
func TestJustEnoughRules(t *testing.T) {
	wantSymbols(t, manyRules(api.MaxRules), []bool{false, true})
	wantSymbols(t, manyRules(api.MaxRules-1), []bool{false, true})
}

// derivesNothing goes by derivations, from form to form, each time of the first symbol: what derives nothing at all does so by forms of at most that many symbols.
func derivesNothing(g api.Grammar, sym, most int) bool {
	seen := map[string]bool{}
	var try func(form []int) bool
	try = func(form []int) bool {
		key := fmt.Sprint(form)
		if len(form) == 0 {
			return true
		}
		if len(form) > most || seen[key] {
			return false
		}
		seen[key] = true
		for _, r := range g.Rules {
			if r.Left == form[0] && try(slices.Concat(r.Right, form[1:])) {
				return true
			}
		}
		return false
	}
	return try([]int{sym})
}

// eachGrammar hands on all grammars of those symbols and of up to most rules, with right sides of up to long symbols.
func eachGrammar(terms, names string, most, long int, do func(api.Grammar)) {
	g := grammarOf(terms, names)
	symbols := len(g.Terms) + len(g.Names)
	rights := [][]int{nil}
	for from := 0; len(rights[from]) < long; from++ {
		for sym := range symbols {
			rights = append(rights, append(slices.Clone(rights[from]), sym))
		}
	}
	var grow func()
	grow = func() {
		if grammar.Good(g) {
			do(g)
		}
		if len(g.Rules) == most {
			return
		}
		for left := len(g.Terms); left < symbols; left++ {
			for _, right := range rights {
				g.Rules = append(g.Rules, rule(left, right...))
				grow()
				g.Rules = g.Rules[:len(g.Rules)-1]
			}
		}
	}
	grow()
}

// P6.1, P6.2: all small grammars, held against their derivations: a shortest one to nothing is at most as deep as there are nonterminals, so that with right sides of two its forms have at most one symbol more.
func TestAllSmallGrammars(t *testing.T) {
	seen := 0
	check := func(g api.Grammar) {
		seen++
		want := make([]bool, len(g.Terms)+len(g.Names))
		for sym := range want {
			want[sym] = derivesNothing(g, sym, len(g.Names)+1)
		}
		wantSymbols(t, g, want)
		wantOneRule(t, g)
	}
	eachGrammar("", "S", 3, 2, check)
	eachGrammar("a", "S", 3, 2, check)
	eachGrammar("a", "S T", 3, 2, check)
	eachGrammar("", "S T U", 3, 2, check)
	if seen < 5000 {
		t.Errorf("%d grammars alone", seen)
	}
}

// wantOneRule: a nonterminal does just if one of its rules does.
func wantOneRule(t *testing.T, g api.Grammar) {
	t.Helper()
	l := nullable.Of(g)
	byRules := make([]bool, len(l))
	for i, r := range g.Rules {
		byRules[r.Left] = byRules[r.Left] || nullable.Rule(g, i)
	}
	if !slices.Equal(l, byRules) {
		t.Errorf("Of(%s) = %v; by its rules %v", short(g), l, byRules)
	}
}

// P6.2: a nonterminal does just if one of its rules does, the first of them, the last or one between.
func TestOneRuleIsEnough(t *testing.T) {
	for _, s := range []string{
		"S = | 'a' | 'b' ;", "S = 'a' | | 'b' ;", "S = 'a' | 'b' | ;",
		"S = 'a' ; T = 'b' | S ; S = T 'c' | ;", "S = 'a' S | S S 'a' ;",
		"S = A B | B C | C A ; A = 'a' | ; B = 'b' ; C = C C | A A ;",
	} {
		wantOneRule(t, read(t, s))
	}
	wantOneRule(t, chain())
	wantOneRule(t, chain(0))
	wantNames(t, "S = | 'a' | 'b' ;", "S")
	wantNames(t, "S = 'a' | | 'b' ;", "S")
	wantNames(t, "S = 'a' | 'b' | ;", "S")
	wantNames(t, "S = 'a' ; T = 'b' | S ; S = T 'c' | ;", "S", "T")
}

func whole[T any](l []T) []T { return l[:cap(l)] }

// withRoom is l in a list that has spare room, which is filled.
func withRoom[T any](l []T, spare T) []T {
	return append(slices.Clone(l), spare, spare)[:len(l)]
}

// grammarWithRoom is g in lists that have spare room, which is filled.
func grammarWithRoom(g api.Grammar) api.Grammar {
	g.Terms = withRoom(g.Terms, "spare")
	g.Names = withRoom(g.Names, "spare")
	g.Rules = withRoom(g.Rules, rule(9, 9))
	for i, r := range g.Rules {
		g.Rules[i].Right = withRoom(r.Right, 9)
	}
	return g
}

// roomOf is all that g's lists have, spare room included.
func roomOf(g api.Grammar) string {
	s := fmt.Sprintf("%q %q %v", whole(g.Terms), whole(g.Names), whole(g.Rules))
	for _, r := range g.Rules {
		s += fmt.Sprint(whole(r.Right))
	}
	return s
}

// Rule 2 of the document: what is handed in is not changed, its spare room included.
func TestArgumentsAreNotChanged(t *testing.T) {
	wrong := ordinary()
	wrong.Rules[4].Right[0] = 7
	for _, x := range []api.Grammar{ordinary(), wrong, chain()} {
		g, l := grammarWithRoom(x), withRoom([]int{3, 2, 3, -1}, 9)
		state := func() string { return roomOf(g) + fmt.Sprint(whole(l)) }
		before := state()
		nullable.Of(g)
		for r := range g.Rules {
			nullable.Rule(g, r)
		}
		nullable.All(g, l)
		nullable.All(g, l[:3])
		if after := state(); after != before {
			t.Errorf("%s was changed to %s", before, after)
		}
	}
}

// Rule 2 of the document: what is told is new memory.
func TestAnswersAreNew(t *testing.T) {
	g := ordinary()
	first, second := nullable.Of(g), nullable.Of(g)
	for i := range whole(first) {
		whole(first)[i] = !whole(first)[i]
	}
	want := []bool{false, false, true, true}
	if !slices.Equal(second, want) {
		t.Error("Of handed out one list twice")
	}
	wantSymbols(t, g, want)
}

// Rules 2 and 4 of the document: nil and empty lists are one, and neither what was told before nor what stands in spare room is to be seen in an answer.
func TestAnswersHangOnArgumentsAlone(t *testing.T) {
	empty := api.Grammar{Terms: []string{}, Names: []string{"S"}, Rules: []api.Rule{{Right: []int{}}}}
	for range 300 {
		wantSymbols(t, empty, []bool{true})
		wantNothing(t, api.Grammar{})
		wantSymbols(t, grammarWithRoom(ordinary()), []bool{false, false, true, true})
		wantNames(t, "S = S ;")
		wantAll(t, ordinary(), []int{2, 3, 4}, false)
		wantNames(t, "S = A ; A = S | ;", "S", "A")
		wantSymbols(t, chain(0), make([]bool, api.MaxTerms+api.MaxNames))
	}
}

// Rule 5 of the document: what goroutines a call begins are over when it ends.
func TestGoroutinesAreOver(t *testing.T) {
	before := runtime.NumGoroutine()
	for range 200 {
		for _, g := range []api.Grammar{ordinary(), chain(), chain(0), {}} {
			nullable.Of(g)
			nullable.Rule(g, 0)
			nullable.All(g, []int{2, -1, 3})
		}
	}
	// A goroutine that is over may be counted for a moment.
	for wait := 0; runtime.NumGoroutine() > before && wait < 1000; wait++ {
		time.Sleep(time.Millisecond)
	}
	if after := runtime.NumGoroutine(); after > before {
		t.Errorf("%d goroutines go on", after-before)
	}
}
