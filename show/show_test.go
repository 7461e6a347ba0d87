package show_test

import (
	"fmt"
	"math"
	"slices"
	"strings"
	"testing"

	"topiarist/api"
	"topiarist/grammar"
	"topiarist/show"
)

func rule(left int, right ...int) api.Rule { return api.Rule{Left: left, Right: right} }

// grammarOf is a grammar whose terms, and names, are parted by blanks.
func grammarOf(terms, names string, rules ...api.Rule) api.Grammar {
	return api.Grammar{Terms: strings.Fields(terms), Names: strings.Fields(names), Rules: rules}
}

// ordinary is a grammar that may be: A = B 'x' | ; B = 'y' 'x' | A ; A = 'x' ;
func ordinary() api.Grammar {
	return grammarOf("x y", "A B", rule(2, 3, 0), rule(2), rule(3, 1, 0), rule(3, 2), rule(2, 0))
}

// read is the grammar that s is the text of.
func read(t *testing.T, s string) api.Grammar {
	t.Helper()
	g, f := grammar.Of(s)
	if f != (api.Fault{}) {
		t.Fatalf("Of(%q): %v", s, f)
	}
	return g
}

// same takes nil and empty lists for one.
func same(a, b api.Grammar) bool {
	return slices.Equal(a.Terms, b.Terms) && slices.Equal(a.Names, b.Names) &&
		slices.EqualFunc(a.Rules, b.Rules, func(x, y api.Rule) bool {
			return x.Left == y.Left && slices.Equal(x.Right, y.Right)
		})
}

// shortText is g for a message, cut where g is huge.
func shortText(g api.Grammar) string {
	const most = 500
	s := fmt.Sprintf("%q %q %v", g.Terms, g.Names, g.Rules)
	if len(s) > most {
		s = s[:most] + " .."
	}
	return s
}

// noRules are numbers that are no rule's in any grammar that may be.
func noRules() []int {
	return []int{-1, -2, api.MaxRules, 1 << 32, 1 + 1<<32, 1 << 40, math.MaxInt, math.MinInt, math.MinInt + 1}
}

func wantRule(t *testing.T, g api.Grammar, n int, want string) {
	t.Helper()
	if s, ok := show.Rule(g, n); s != want || !ok {
		t.Errorf("Rule(%s, %d) = %q, %v; want %q", shortText(g), n, s, ok, want)
	}
}

func wantNoRule(t *testing.T, g api.Grammar, n int) {
	t.Helper()
	if s, ok := show.Rule(g, n); s != "" || ok {
		t.Errorf("Rule(%s, %d) = %q, %v; want none", shortText(g), n, s, ok)
	}
}

// wantRules: the rules of g are told as those lines, and no others are.
func wantRules(t *testing.T, g api.Grammar, lines ...string) {
	t.Helper()
	if len(lines) != len(g.Rules) {
		t.Fatalf("%s has %d rules, not %d", shortText(g), len(g.Rules), len(lines))
	}
	for n, line := range lines {
		wantRule(t, g, n, line)
	}
	for _, n := range append(noRules(), len(lines), len(lines)+1) {
		wantNoRule(t, g, n)
	}
}

func wantText(t *testing.T, g api.Grammar, want string) {
	t.Helper()
	if s, e := show.Text(g); s != want || e != api.OK {
		t.Errorf("Text(%s) = %q, %d; want %q", shortText(g), s, e, want)
	}
}

func wantError(t *testing.T, g api.Grammar, want api.Errno) {
	t.Helper()
	if s, e := show.Text(g); s != "" || e != want {
		t.Errorf("Text(%s) = %q, %d; want error %d alone", shortText(g), s, e, want)
	}
}

// wantBoth: the rules of g, one by one, are those lines, and its text is all of them.
func wantBoth(t *testing.T, g api.Grammar, lines ...string) {
	t.Helper()
	wantRules(t, g, lines...)
	wantText(t, g, strings.Join(lines, " ;\n")+" ;\n")
	wantReadAgain(t, g)
}

// wantReadAgain: the grammar of g's text is g.
func wantReadAgain(t *testing.T, g api.Grammar) {
	t.Helper()
	s, e := show.Text(g)
	again, f := grammar.Of(s)
	if e != api.OK || f != (api.Fault{}) || !same(again, g) {
		t.Errorf("Text(%s) = %q, %d, of which the grammar is %s, %v", shortText(g), s, e, shortText(again), f)
	}
}

// wantNothing: g may not be, so that neither its text nor any rule of it is told.
func wantNothing(t *testing.T, g api.Grammar) {
	t.Helper()
	wantError(t, g, api.ErrForm)
	for n := range min(len(g.Rules), api.MaxRules+1) {
		wantNoRule(t, g, n)
	}
	for _, n := range append(noRules(), len(g.Rules), len(g.Rules)-1) {
		wantNoRule(t, g, n)
	}
}

// P4.1, P4.2: the chapter's example.
func TestExample(t *testing.T) {
	g := read(t, "S = 'a' S | ;")
	wantRule(t, g, 0, "S = 'a' S")
	wantRule(t, g, 1, "S =")
	wantText(t, g, "S = 'a' S ;\nS = ;\n")
}

// P4.1, P4.2: ordinary grammars: rules of several symbols, of one, of none.
func TestOrdinaryGrammars(t *testing.T) {
	wantBoth(t, ordinary(), "A = B 'x'", "A =", "B = 'y' 'x'", "B = A", "A = 'x'")
	wantBoth(t, grammarOf("", "S", rule(0)), "S =")
	wantBoth(t, grammarOf("", "S", rule(0, 0)), "S = S")
	wantBoth(t, grammarOf("a", "S", rule(1, 1, 1), rule(1, 0)), "S = S S", "S = 'a'")
	wantBoth(t, grammarOf("( )", "S", rule(2, 0, 2, 1), rule(2)), "S = '(' S ')'", "S =")
	wantBoth(t, grammarOf("+ x", "Sum One", rule(2, 2, 0, 3), rule(2, 3), rule(3, 1)),
		"Sum = Sum '+' One", "Sum = One", "One = 'x'")
}

// P4.1, P4.2: rules stand in their own order, though a left side has some elsewhere.
func TestOrderOfRules(t *testing.T) {
	g := grammarOf("x y", "A B", rule(2, 0), rule(3, 2), rule(2, 3), rule(2, 1), rule(3))
	wantBoth(t, g, "A = 'x'", "B = A", "A = B", "A = 'y'", "B =")
	wantBoth(t, grammarOf("", "z a m", rule(0, 2, 1), rule(1), rule(2, 1), rule(0)), "z = m a", "a =", "m = a", "z =")
}

// P4.1, P4.2: a terminal and a nonterminal of one text.
func TestOneTextOfTwoSymbols(t *testing.T) {
	wantBoth(t, grammarOf("S", "S", rule(1, 0, 1), rule(1, 1, 0)), "S = 'S' S", "S = S 'S'")
	wantBoth(t, grammarOf("S", "S", rule(1, 0), rule(1, 1)), "S = 'S'", "S = S")
	wantBoth(t, grammarOf("b a", "a b", rule(2, 3, 0), rule(3, 1, 2)), "a = b 'b'", "b = 'a' a")
}

// P4.1, P4.2: signs in a quote stand as they are.
func TestSignsInQuotes(t *testing.T) {
	terms := []string{"a b", " ", "#", ";", "|", "=", "\"", "\\n", "~", "%s", " = ;"}
	g := api.Grammar{Terms: terms, Names: []string{"S_1"}}
	var lines []string
	for sym, text := range terms {
		g.Rules = append(g.Rules, rule(len(terms), sym, sym))
		lines = append(lines, "S_1 = '"+text+"' '"+text+"'")
	}
	wantBoth(t, g, lines...)
}

// P4.1, P4.2: as many rules, and as many symbols in each, as there may be.
func TestManyRules(t *testing.T) {
	g := grammarOf("", "A B")
	var lines []string
	for n := range api.MaxRules {
		left := n / (api.MaxRules - 1)
		line := g.Names[left] + " ="
		var right []int
		for bit := range api.MaxRight {
			sym := n >> bit & 1
			right = append(right, sym)
			line += " " + g.Names[sym]
		}
		g.Rules = append(g.Rules, rule(left, right...))
		lines = append(lines, line)
	}
	wantBoth(t, g, lines...)
}

// P4.1: the longest rule that there may be.
func TestLongestRule(t *testing.T) {
	name, term := strings.Repeat("n", api.MaxName), strings.Repeat(" ", api.MaxName)
	g := api.Grammar{Terms: []string{term}, Names: []string{name}, Rules: []api.Rule{{Left: 1, Right: make([]int, api.MaxRight)}}}
	wantBoth(t, g, name+" ="+strings.Repeat(" '"+term+"'", api.MaxRight))
}

// withBytes is a grammar whose text has n bytes, for n from 1980 up to 2100 or so.
func withBytes(t *testing.T, n int) api.Grammar {
	t.Helper()
	const rules = 15
	long := strings.Repeat("n", api.MaxName)
	g := api.Grammar{Names: []string{long, "S"}}
	for sym := range rules {
		g.Terms = append(g.Terms, string(rune('a'+sym)))
		g.Rules = append(g.Rules, rule(rules+1, sym, rules, rules, rules, rules, rules, rules, rules))
	}
	g.Rules[0].Left = rules
	for sym := 0; textBytes(g) < n; sym = (sym + 1) % rules {
		g.Terms[sym] += "x"
	}
	if !grammar.Good(g) || textBytes(g) != n {
		t.Fatalf("%s may be: %v; its text has %d bytes, not %d", shortText(g), grammar.Good(g), textBytes(g), n)
	}
	return g
}

// textBytes is how many bytes the text of g has, counted without making it.
func textBytes(g api.Grammar) int {
	n := 0
	for _, r := range g.Rules {
		n += len(g.Names[r.Left-len(g.Terms)]) + len(" =") + len(" ;\n")
		for _, sym := range r.Right {
			if sym < len(g.Terms) {
				n += len(" ''") + len(g.Terms[sym])
			} else {
				n += len(" ") + len(g.Names[sym-len(g.Terms)])
			}
		}
	}
	return n
}

// P4.2: texts of just MaxText bytes, of one less and of more.
func TestLargeTexts(t *testing.T) {
	for n := api.MaxText - 20; n <= api.MaxText; n++ {
		g := withBytes(t, n)
		if s, e := show.Text(g); len(s) != n || e != api.OK {
			t.Errorf("a text of %d bytes: %d bytes, error %d", n, len(s), e)
		}
		wantReadAgain(t, g)
	}
	for n := api.MaxText + 1; n <= api.MaxText+20; n++ {
		wantError(t, withBytes(t, n), api.ErrLarge)
	}
	wantError(t, largest(), api.ErrLarge)
}

// largest is a grammar with as much of each thing as there may be.
func largest() api.Grammar {
	var g api.Grammar
	for i := range api.MaxTerms {
		g.Terms = append(g.Terms, fmt.Sprintf("t%0*d", api.MaxName-1, i))
	}
	for i := range api.MaxNames {
		g.Names = append(g.Names, fmt.Sprintf("n%0*d", api.MaxName-1, i))
	}
	for i := range api.MaxRules {
		r := rule(api.MaxTerms + i%api.MaxNames)
		for k := range api.MaxRight {
			r.Right = append(r.Right, (i*api.MaxRight+k)%api.MaxTerms)
		}
		// Behind the rules in which all terminals come, what makes the rules differ.
		r.Right[0] += i / api.MaxNames
		g.Rules = append(g.Rules, r)
	}
	return g
}

// P4.1: a rule is told, though the text of all of them would be too large.
func TestRulesOfLargeTexts(t *testing.T) {
	g := withBytes(t, api.MaxText+1)
	long := strings.Repeat(" "+strings.Repeat("n", api.MaxName), api.MaxRight-1)
	wantRule(t, g, 0, long[1:1+api.MaxName]+" = '"+g.Terms[0]+"'"+long)
	wantRule(t, g, 1, "S = '"+g.Terms[1]+"'"+long)
	wantRule(t, g, len(g.Rules)-1, "S = '"+g.Terms[len(g.Rules)-1]+"'"+long)
	wantNoRule(t, g, len(g.Rules))
	g = largest()
	last := g.Names[g.Rules[api.MaxRules-1].Left-api.MaxTerms] + " ="
	for _, sym := range g.Rules[api.MaxRules-1].Right {
		last += " '" + g.Terms[sym] + "'"
	}
	wantRule(t, g, api.MaxRules-1, last)
	wantNoRule(t, g, api.MaxRules)
}

// P4.1, P4.2: no grammar at all, and such as lack a list.
func TestNothing(t *testing.T) {
	wantNothing(t, api.Grammar{})
	wantNothing(t, api.Grammar{Terms: []string{}, Names: []string{}, Rules: []api.Rule{}})
	wantNothing(t, grammarOf("", "S"))
	wantNothing(t, grammarOf("", "", rule(0)))
	wantNothing(t, grammarOf("a", "", rule(0)))
	wantNothing(t, grammarOf("a", "", rule(0, 0)))
}

// P4.1, P4.2: grammars that may not be, for each cause that the words name; of the rules that have no fault of their own none is told either.
func TestGrammarsThatMayNotBe(t *testing.T) {
	long := strings.Repeat("n", api.MaxName+1)
	for what, change := range map[string]func(g *api.Grammar){
		"no name":             func(g *api.Grammar) { g.Names[1] = "9" },
		"an empty name":       func(g *api.Grammar) { g.Names[1] = "" },
		"a long name":         func(g *api.Grammar) { g.Names[1] = long },
		"names alike":         func(g *api.Grammar) { g.Names[1] = g.Names[0] },
		"a quote in a term":   func(g *api.Grammar) { g.Terms[1] = "'" },
		"a newline in a term": func(g *api.Grammar) { g.Terms[1] = "\n" },
		"an empty term":       func(g *api.Grammar) { g.Terms[1] = "" },
		"a long term":         func(g *api.Grammar) { g.Terms[1] = long },
		"terms alike":         func(g *api.Grammar) { g.Terms[1] = g.Terms[0] },
		"a name without rule": func(g *api.Grammar) { g.Names = append(g.Names, "C") },
		"a term in no rule":   func(g *api.Grammar) { g.Rules[2].Right = nil },
		"a left of a term":    func(g *api.Grammar) { g.Rules[4].Left = 0 },
		"a left below 0":      func(g *api.Grammar) { g.Rules[4].Left = -1 },
		"a left behind all":   func(g *api.Grammar) { g.Rules[4].Left = 4 },
		"a symbol below 0":    func(g *api.Grammar) { g.Rules[4].Right[0] = math.MinInt },
		"a symbol behind all": func(g *api.Grammar) { g.Rules[4].Right[0] = 4 },
		"a huge symbol":       func(g *api.Grammar) { g.Rules[4].Right[0] = 1 << 32 },
		"rules alike":         func(g *api.Grammar) { g.Rules[4] = g.Rules[0] },
		"names out of order":  func(g *api.Grammar) { g.Rules = append([]api.Rule{rule(3)}, g.Rules...) },
		"terms out of order":  func(g *api.Grammar) { g.Rules[0].Right[1] = 1 },
		"a long right side":   func(g *api.Grammar) { g.Rules[4].Right = make([]int, api.MaxRight+1) },
		"many rules":          func(g *api.Grammar) { g.Rules = append(g.Rules, manyRules(api.MaxRules-4)...) },
	} {
		t.Run(what, func(t *testing.T) {
			g := ordinary()
			change(&g)
			wantNothing(t, g)
		})
	}
}

// manyRules are n rules that the ordinary grammar may have beside its own.
func manyRules(n int) []api.Rule {
	var l []api.Rule
	for i := range n {
		l = append(l, rule(2, 0, 0, i&1, i>>1&1, i>>2&1, i>>3&1, i>>4&1, i>>5&1))
	}
	return l
}

// wide is a grammar of so many terminals and nonterminals, each of which stands where it must.
func wide(terms, names int) api.Grammar {
	var g api.Grammar
	for sym := range terms {
		g.Terms = append(g.Terms, fmt.Sprint("t", sym))
	}
	for n := range names {
		g.Names = append(g.Names, fmt.Sprint("n", n))
		g.Rules = append(g.Rules, rule(terms+n))
	}
	for sym := range terms {
		r := &g.Rules[sym/api.MaxRight]
		r.Right = append(r.Right, sym)
	}
	return g
}

// P4.1, P4.2: as many nonterminals and terminals as there may be, and one more.
func TestManySymbols(t *testing.T) {
	g := wide(api.MaxTerms, api.MaxNames)
	wantReadAgain(t, g)
	wantTextOfRules(t, g)
	wantRule(t, g, 0, "n0 = 't0' 't1' 't2' 't3' 't4' 't5' 't6' 't7'")
	wantRule(t, g, api.MaxNames-1, fmt.Sprint("n", api.MaxNames-1, " ="))
	wantNothing(t, wide(api.MaxTerms+1, api.MaxNames))
	wantNothing(t, wide(api.MaxTerms, api.MaxNames+1))
}

// P4.1: of the many rules that may not be, one less may.
func TestManyRulesAtTheLimit(t *testing.T) {
	g := ordinary()
	g.Rules = append(g.Rules, manyRules(api.MaxRules-len(g.Rules))...)
	wantRule(t, g, 0, "A = B 'x'")
	wantRule(t, g, 5, "A = 'x' 'x' 'x' 'x' 'x' 'x' 'x' 'x'")
	wantNoRule(t, g, api.MaxRules)
}

// P4.1, P4.2: lists of any size end at once.
func TestHugeGrammars(t *testing.T) {
	const huge = 1 << 22
	for _, change := range []func(g *api.Grammar){
		func(g *api.Grammar) { g.Names = make([]string, huge) },
		func(g *api.Grammar) { g.Terms = make([]string, huge) },
		func(g *api.Grammar) { g.Rules = make([]api.Rule, huge) },
		func(g *api.Grammar) { g.Rules[0].Right = make([]int, huge) },
		func(g *api.Grammar) { g.Terms[0] = strings.Repeat("t", huge) },
	} {
		g := ordinary()
		change(&g)
		wantNothing(t, g)
	}
}

// P4.2: ErrForm is told ahead of ErrLarge, where both apply.
func TestFirstOfTwoErrors(t *testing.T) {
	large := func() api.Grammar { return withBytes(t, api.MaxText+1) }
	wantError(t, large(), api.ErrLarge)
	g := large()
	g.Rules[len(g.Rules)-1].Right[6] = len(g.Terms) + 2
	wantNothing(t, g)
	g = large()
	g.Rules = append(g.Rules, g.Rules[0])
	wantNothing(t, g)
	g = large()
	g.Names = append(g.Names, "T")
	wantNothing(t, g)
	g = large()
	g.Terms[0] += "'"
	wantNothing(t, g)
	g = largest()
	g.Rules = append(g.Rules, rule(api.MaxTerms))
	wantNothing(t, g)
}

// P4.3: the grammar of a text's grammar's text is that grammar, and its text is that text.
func TestTextsReadAgain(t *testing.T) {
	for _, s := range []string{
		"S = S S | 'a' ; S = | 'a' ; T = S T | T ; S = T ;",
		"E = E '+' E | E '*' E | '(' E ')' | N ; N = 'x' | 'y' | N N ;   # sums",
		"C = B ; A = C ; B = A 'z' 'a' 'm' ; A = 'a' | 'q' ;",
		"S='#'|';' 'S = ;'|' ';",
		"A = | | ; A = ;",
	} {
		g := read(t, s)
		wantReadAgain(t, g)
		text, _ := show.Text(g)
		wantText(t, read(t, text), text)
	}
}

// P4.2, P4.3: of all small grammars, those with wrong numbers and texts among them, those that may be are read again of their texts, and of no other one a text or a rule is told.
func TestAllSmallGrammars(t *testing.T) {
	some := [][]string{nil, {"x"}, {"x", "y"}, {""}, {"x", "x"}}
	for _, terms := range some {
		for _, names := range some {
			eachRules(len(terms)+len(names), func(rules []api.Rule) {
				g := api.Grammar{Terms: terms, Names: names, Rules: rules}
				if !grammar.Good(g) {
					wantError(t, g, api.ErrForm)
					wantNoRule(t, g, 0)
					return
				}
				wantReadAgain(t, g)
				wantTextOfRules(t, g)
			})
		}
	}
}

// eachRules hands on all lists of up to two rules of up to two symbols; numbers go one beyond the symbols at both ends.
func eachRules(symbols int, do func([]api.Rule)) {
	var rights [][]int
	for a := -1; a <= symbols; a++ {
		rights = append(rights, []int{a})
		for b := -1; b <= symbols; b++ {
			rights = append(rights, []int{a, b})
		}
	}
	var rules []api.Rule
	for left := -1; left <= symbols; left++ {
		rules = append(rules, rule(left))
		for _, right := range rights {
			rules = append(rules, rule(left, right...))
		}
	}
	do(nil)
	for _, first := range rules {
		do([]api.Rule{first})
		for _, second := range rules {
			do([]api.Rule{first, second})
		}
	}
}

// wantTextOfRules: the text of g is each rule's, with " ;" and a newline behind it.
func wantTextOfRules(t *testing.T, g api.Grammar) {
	t.Helper()
	text := ""
	for n := range g.Rules {
		s, ok := show.Rule(g, n)
		if !ok {
			t.Errorf("Rule(%s, %d): none", shortText(g), n)
		}
		text += s + " ;\n"
	}
	wantText(t, g, text)
}

// withRoom is g in lists that have spare room, which is filled.
func withRoom(g api.Grammar) api.Grammar {
	g.Terms = append(slices.Clone(g.Terms), "spare")[:len(g.Terms)]
	g.Names = append(slices.Clone(g.Names), "spare")[:len(g.Names)]
	g.Rules = append(slices.Clone(g.Rules), rule(9, 9))[:len(g.Rules)]
	for i, r := range g.Rules {
		g.Rules[i].Right = append(slices.Clone(r.Right), 9)[:len(r.Right)]
	}
	return g
}

func whole[T any](l []T) []T { return l[:cap(l)] }

// roomOf is all that g's lists have, spare room included.
func roomOf(g api.Grammar) string {
	s := fmt.Sprintf("%q %q %v", whole(g.Terms), whole(g.Names), whole(g.Rules))
	for _, r := range g.Rules {
		s += fmt.Sprint(whole(r.Right))
	}
	return s
}

// Rule 2 of the document: what is handed in is not changed, its spare room included.
func TestArgumentsAreNotChanged(t *testing.T) {
	wrong := ordinary()
	wrong.Rules[4].Right[0] = 7
	for _, x := range []api.Grammar{ordinary(), wrong, withBytes(t, api.MaxText+1)} {
		g := withRoom(x)
		before := roomOf(g)
		show.Text(g)
		for n := -1; n <= len(g.Rules); n++ {
			show.Rule(g, n)
		}
		if after := roomOf(g); after != before {
			t.Errorf("%s was changed to %s", before, after)
		}
	}
}

// Rules 2 and 4 of the document: nil and empty lists are one, and what was told before is not to be seen in an answer.
func TestAnswersHangOnArgumentsAlone(t *testing.T) {
	empty := api.Grammar{Terms: []string{}, Names: []string{"S"}, Rules: []api.Rule{{Right: []int{}}}}
	wantBoth(t, empty, "S =")
	wantBoth(t, api.Grammar{Names: []string{"S"}, Rules: []api.Rule{{}}}, "S =")
	wantNothing(t, api.Grammar{})
	wantError(t, withBytes(t, api.MaxText+1), api.ErrLarge)
	wantBoth(t, empty, "S =")
	wantBoth(t, withRoom(ordinary()), "A = B 'x'", "A =", "B = 'y' 'x'", "B = A", "A = 'x'")
}
