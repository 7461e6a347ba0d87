package follow_test

import (
	"fmt"
	"math"
	"runtime"
	"slices"
	"strings"
	"testing"
	"time"

	"topiarist/api"
	"topiarist/first"
	"topiarist/follow"
	"topiarist/grammar"
	"topiarist/nullable"
)

func rule(left int, right ...int) api.Rule { return api.Rule{Left: left, Right: right} }

// grammarOf is a grammar whose terms, and names, are parted by blanks.
func grammarOf(terms, names string, rules ...api.Rule) api.Grammar {
	return api.Grammar{Terms: strings.Fields(terms), Names: strings.Fields(names), Rules: rules}
}

// ordinary is a grammar that may be: A = B 'x' | ; B = 'y' 'x' | A ; A = 'x' ;
func ordinary() api.Grammar {
	return grammarOf("x y", "A B", rule(2, 3, 0), rule(2), rule(3, 1, 0), rule(3, 2), rule(2, 0))
}

// read is the grammar that s is the text of.
func read(t *testing.T, s string) api.Grammar {
	t.Helper()
	g, f := grammar.Of(s)
	if f != (api.Fault{}) {
		t.Fatalf("Of(%q): %v", s, f)
	}
	return g
}

// short is x for a message, cut where x is huge.
func short(x any) string {
	const most = 300
	s := fmt.Sprintf("%v", x)
	if len(s) > most {
		s = s[:most] + " .."
	}
	return s
}

// span is the numbers from one on up to another one.
func span(from, to int) []int {
	var l []int
	for n := from; n < to; n++ {
		l = append(l, n)
	}
	return l
}

func endOf(g api.Grammar) int { return len(g.Terms) + len(g.Names) }

// set is the terminals that list names, rising; the sign $ stands for the end.
func set(g api.Grammar, list string) []int {
	texts := strings.Fields(list)
	var l []int
	for term, text := range g.Terms {
		if slices.Contains(texts, text) {
			l = append(l, term)
		}
	}
	if slices.Contains(texts, "$") {
		l = append(l, endOf(g))
	}
	return l
}

func wantErrArg(t *testing.T, g api.Grammar, sym int) {
	t.Helper()
	if got, e := follow.Of(g, sym); e != api.ErrArg || len(got) != 0 {
		t.Errorf("Of(%s, %d) = %s, %d; want ErrArg", short(g), sym, short(got), e)
	}
}

// wantSets: of the nonterminals, in the order of Names, these are the sets; Of tells each of them, and Last whether the end is in it.
func wantSets(t *testing.T, g api.Grammar, want [][]int) {
	t.Helper()
	if got := follow.Sets(g); !slices.EqualFunc(got, want, slices.Equal[[]int]) {
		t.Errorf("Sets(%s) = %s; want %s", short(g), short(got), short(want))
	}
	var last []bool
	for name, l := range want {
		last = append(last, slices.Contains(l, endOf(g)))
		if got, e := follow.Of(g, len(g.Terms)+name); e != api.OK || !slices.Equal(got, l) {
			t.Errorf("Of(%s, %d) = %s, %d; want %s", short(g), len(g.Terms)+name, short(got), e, short(l))
		}
	}
	if got := follow.Last(g); !slices.Equal(got, last) {
		t.Errorf("Last(%s) = %v; want %v", short(g), got, last)
	}
}

// wantNames: of the grammar that s is the text of, these stand behind the nonterminals, in the order of Names.
func wantNames(t *testing.T, s string, want ...string) {
	t.Helper()
	g := read(t, s)
	var sets [][]int
	for _, list := range want {
		sets = append(sets, set(g, list))
	}
	wantSets(t, g, sets)
}

// P9.1, P9.2: ordinary grammars: what stands behind a nonterminal in the right sides, in whichever rule.
func TestOrdinaryGrammars(t *testing.T) {
	wantNames(t, "S = A 'a' | B 'b' | 'c' A 'd' ; A = 'x' ; B = 'y' ;", "$", "a d", "b")
	wantNames(t, "S = A B C ; A = 'a' ; B = 'b' | 'c' ; C = 'd' B 'e' ;", "$", "b c", "d e", "$")
	wantNames(t, "S = '(' S ')' | A ; A = 'x' ;", ") $", ") $")
	wantNames(t, "S = 'if' S 'then' S | Call ; Call = 'id' '(' Args ')' ; Args = S | S ',' Args ;", "then ) , $", "then ) , $", ")")
	wantSets(t, ordinary(), [][]int{{0, 4}, {0}})
}

// P9.1, P9.2, P9.3: the chapter's example: S has a and the end.
func TestExample(t *testing.T) {
	g := read(t, "S = S 'a' | ;")
	wantNames(t, "S = S 'a' | ;", "a $")
	wantSets(t, g, [][]int{{0, 2}})
}

// P9.1, P9.2: behind what stands last in a right side stands what stands behind the left side, terminals and the end, over several rules, too.
func TestLastInARightSide(t *testing.T) {
	wantNames(t, "S = A 'b' ; A = 'x' C ; C = 'c' ;", "$", "b", "b")
	wantNames(t, "S = 'a' A ; A = 'b' ;", "$", "$")
	wantNames(t, "S = A 'z' | 'y' B ; A = C ; B = C ; C = D ; D = E ; E = 'e' ;", "$", "z", "$", "z $", "z $", "z $")
	wantNames(t, "E = 'e' ; D = E ; C = D ; B = C ; A = B 'z' ;", "z $", "z", "z", "z", "")
	// What stands behind the left side stands not behind what is not last in it.
	wantNames(t, "S = A 'z' ; A = B C ; B = 'b' ; C = 'c' ;", "$", "z", "c", "z")
	// What stands behind what is last stands not behind the left side.
	wantNames(t, "S = A 'a' | B 'b' ; A = B ; B = 'x' ;", "$", "a", "a b")
}

// P9.1, P9.2: where what stands behind may be nothing, that counts that stands behind it, up to what may not be nothing, and then what stands behind the left side.
func TestWhatMayBeNothingBehind(t *testing.T) {
	wantNames(t, "S = A B 'c' ; A = | 'a' ; B = A | 'b' B ;", "$", "c a b", "c")
	wantNames(t, "S = A B C 'd' ; A = 'a' ; B = 'b' | ; C = 'c' | ;", "$", "d b c", "d c", "d")
	wantNames(t, "S = X 'z' ; X = A B C ; A = 'a' ; B = 'b' | ; C = 'c' | ;", "$", "z", "b c z", "c z", "z")
	wantNames(t, "S = A B C 'd' ; A = 'a' ; B = 'b' | ; C = 'c' ;", "$", "b c", "c", "d")
	wantNames(t, "S = A E E 'd' E ; A = 'a' ; E = ;", "$", "d", "d $")
	wantNames(t, "S = 'd' A E E E ; A = 'a' ; E = ;", "$", "$", "$")
	wantNames(t, "S = A B ; A = 'a' ; B = C C ; C = D | 'c' ; D = | 'd' D ;", "$", "d c $", "$", "d c $", "d c $")
	wantNames(t, "S = X A B C D E F G ; X = 'x' ; A = 'a' | ; B = 'b' | ; C = 'c' | ; D = 'd' | ; E = 'e' | ; F = 'f' | ; G = 'g' | ;",
		"$", "a b c d e f g $", "b c d e f g $", "c d e f g $", "d e f g $", "e f g $", "f g $", "g $", "$")
}

// P9.1, P9.2: recursion to the left and to the right, openly and hidden, and both.
func TestRecursion(t *testing.T) {
	wantNames(t, "S = S 'a' | 'b' ;", "a $")
	wantNames(t, "S = 'a' S | 'b' ;", "$")
	wantNames(t, "S = 'a' S | ;", "$")
	wantNames(t, "Sum = Sum '+' One | One ; One = 'x' | '(' Sum ')' ;", "+ ) $", "+ ) $")
	wantNames(t, "Sum = One '+' Sum | One ; One = 'x' | '(' Sum ')' ;", ") $", "+ ) $")
	wantNames(t, "S = A S 'c' | 'b' ; A = 'a' | ;", "c $", "b a")
	wantNames(t, "S = 'c' S A | 'b' ; A = 'a' | ;", "a $", "a $")
	wantNames(t, "S = S 'x' S | 'y' ;", "x $")
	wantNames(t, "L = L I ',' | ; I = 'i' | '[' L ']' ;", "i [ ] $", ",")
	wantNames(t, "S = A 'x' ; A = B ; B = 'y' A | A 'z' | ;", "$", "x z", "x z")
}

// P9.1, P9.2: a nonterminal that stands twice in one right side, side by side and apart.
func TestTwiceInARightSide(t *testing.T) {
	wantNames(t, "S = A 'x' A 'y' ; A = 'a' ;", "$", "x y")
	wantNames(t, "S = A 'x' A ; A = 'a' ;", "$", "x $")
	wantNames(t, "S = A A ; A = 'a' ;", "$", "a $")
	wantNames(t, "S = A A 'x' ; A = 'a' | ;", "$", "x a")
	wantNames(t, "S = A B A C ; A = 'a' ; B = 'b' | ; C = 'c' ;", "$", "a b c", "a", "$")
	wantNames(t, "S = A 'p' A 'q' A 'r' A 's' ; A = 'a' ;", "$", "p q r s")
}

// P9.1, P9.2: a nonterminal that stands behind itself: with what it begins with, and behind its left side, which it is itself.
func TestBehindItself(t *testing.T) {
	wantNames(t, "S = S S | 'a' ;", "a $")
	wantNames(t, "S = S S S | 'a' | 'b' ;", "a b $")
	wantNames(t, "S = S S | ;", "$")
	wantNames(t, "S = S ;", "$")
	wantNames(t, "S = A 'x' ; A = A A | 'a' | 'b' A ;", "$", "x a b")
	wantNames(t, "S = 'x' ; A = A A | 'a' ;", "$", "a")
	wantNames(t, "S = 'x' ; A = A ;", "$", "")
}

// P9.1, P9.2: nonterminals that stand last in a circle have all that any of them has.
func TestNonterminalsThatGoRound(t *testing.T) {
	wantNames(t, "S = 'z' A 'a' | B 'b' | C 'c' ; A = 'x' B | ; B = C ; C = 'y' A ;", "$", "a b c", "a b c", "a b c")
	wantNames(t, "S = A | 's' ; A = B | 'a' ; B = C | 'b' ; C = S | 'c' ;", "$", "$", "$", "$")
	wantNames(t, "S = A | 's' ; A = B | 'a' ; B = C | 'b' ; C = S | S 'c' ;", "c $", "c $", "c $", "c $")
	wantNames(t, "S = 'z' ; A = B | A 'a' ; B = C E | 'b' ; C = A E E | B 'c' ; E = ;", "$", "a c", "a c", "a c", "a c")
}

// P9.3, P9.1, P9.2: the start has the end: where it stands nowhere, where it stands but ahead of something, and where no token, or none at all, is derived of it.
func TestTheStartHasTheEnd(t *testing.T) {
	wantNames(t, "S = ;", "$")
	wantNames(t, "S = 'a' ;", "$")
	wantNames(t, "S = 'a' S 'b' | 'c' ;", "b $")
	wantNames(t, "S = S 'a' ;", "a $")
	wantNames(t, "S = A ; A = S 'a' | 'b' ;", "a $", "a $")
	wantNames(t, "S = 'a' ; A = S 'b' ; B = S 'c' A ;", "b c $", "", "")
	// The start is the first nonterminal, whatever its name, and however often others stand.
	wantNames(t, "Z = 'a' ; A = Z B ; B = 'b' | A ;", "b a $", "", "")
	wantNames(t, "B = A ; A = 'a' | S ; S = B 'b' ;", "b $", "b $", "b $")
	for _, g := range []api.Grammar{ordinary(), wide(0, 1), wide(api.MaxTerms, api.MaxNames), chain(), backChain(), full()} {
		l, e := follow.Of(g, len(g.Terms))
		if e != api.OK || !slices.Contains(l, endOf(g)) || !follow.Last(g)[0] {
			t.Errorf("the start of %s has %v, not the end", short(g), l)
		}
	}
}

// P9.1, P9.2: a nonterminal that stands in no right side has nothing, but that the start has the end.
func TestNonterminalsThatStandNowhere(t *testing.T) {
	wantNames(t, "S = 'a' ; B = 'b' ; C = ;", "$", "", "")
	wantNames(t, "S = 'a' ; B = S 'b' ; C = 'c' S 'd' ;", "b d $", "", "")
	// Neither has what stands but in its right sides.
	wantNames(t, "S = 'a' ; B = 'b' C ; C = 'c' ; D = B | C ;", "$", "", "", "")
	want := slices.Repeat([][]int{nil}, api.MaxNames)
	want[0] = []int{api.MaxTerms + api.MaxNames}
	wantSets(t, wide(api.MaxTerms, api.MaxNames), want)
}

// P9.1, P9.2: what the start does not reach counts, too: as what stands behind, and as what something stands behind.
func TestSymbolsThatAreNotReached(t *testing.T) {
	wantNames(t, "S = 'x' ; T = S 'y' T | ;", "y $", "")
	wantNames(t, "S = 'a' ; B = 'b' S C | C 'd' ; C = S 'c' ;", "a c $", "", "d")
	wantNames(t, "S = 'a' A ; A = 'x' ; B = A C 'd' ; C = 'c' | ;", "$", "c d $", "", "d")
	// The end comes from the start alone.
	wantNames(t, "S = 'a' ; B = 'b' C ; C = 'c' C ;", "$", "", "")
}

// P9.1: symbols that are not productive count as they stand: they begin as first tells, and may not be nothing.
func TestSymbolsThatAreNotProductive(t *testing.T) {
	wantNames(t, "S = A N 'a' ; A = 'b' ; N = N ;", "$", "", "a")
	wantNames(t, "S = A N 'a' ; A = 'b' ; N = 'n' N ;", "$", "n", "a")
	wantNames(t, "S = A E N ; A = 'b' ; E = 'e' | ; N = N 'c' ;", "$", "e", "", "c $")
	wantNames(t, "S = A N ; A = N 'x' A ; N = A 'y' N ;", "$", "y", "x $")
	wantNames(t, "S = S 'a' S ;", "a $")
}

// P9.1: terminals that have a nonterminal's text are not it.
func TestTerminalsNamedLikeNonterminals(t *testing.T) {
	wantNames(t, "S = 'T' S T | 'S' ; T = 'x' | T 'T' 'S' ;", "x $", "T x $")
}

// P9.1: the end is the number of all symbols, which is neither a terminal's nor a nonterminal's.
func TestTheEndIsTheNumberOfAllSymbols(t *testing.T) {
	for terms := range api.MaxTerms + 1 {
		for _, names := range []int{max(1, (terms+api.MaxRight-1)/api.MaxRight), 20, api.MaxNames} {
			g := wide(terms, names)
			// The last nonterminal stands behind all in the start's second rule.
			g.Rules = append(g.Rules, rule(terms, terms, terms+names-1))
			if !grammar.Good(g) {
				t.Fatal("the grammar is none")
			}
			for name, last := range follow.Last(g) {
				want := name == 0 || name == names-1
				l, e := follow.Of(g, terms+name)
				if e != api.OK || last != want || slices.Contains(l, terms+names) != want {
					t.Errorf("%d terminals, %d nonterminals: %d: %v, %v", terms, names, name, l, last)
				}
				if len(l) > 0 && l[len(l)-1] > terms+names || slices.ContainsFunc(l, func(x int) bool { return x >= terms && x < terms+names }) {
					t.Errorf("%d terminals, %d nonterminals: %d has %v", terms, names, name, l)
				}
			}
		}
	}
}

// P9.1: each list rises, and has nothing twice, whatever the order in which the terminals are found.
func TestListsRise(t *testing.T) {
	const text = "Z = 'a' 'b' 'c' 'd' 'e' ; S = A 'e' | B 'd' | C 'c' ; A = 'x' | B 'b' | B 'b' 'b' ; B = C 'a' | C E 'a' | A ; C = A | B | A 'e' ; E = 'e' | 'd' | 'a' | ; T = A E B 'c' A 'a' ;"
	wantNames(t, text, "$", "", "a b c d e x", "a b c d e", "a c d e", "a x", "")
	for _, l := range slices.Concat(follow.Sets(read(t, text)), follow.Sets(chain()), follow.Sets(backChain()), follow.Sets(full())) {
		if !slices.IsSorted(l) || len(slices.Compact(slices.Clone(l))) != len(l) {
			t.Errorf("%v does not rise", l)
		}
	}
}

func wrongNumbers(beyond int) []int {
	return []int{-1, -2, -beyond, beyond, beyond + 1, 256, 1 << 16, 1 << 31, 1 << 32, 1 + 1<<32, 2 + 1<<32, -1 << 32, math.MaxInt, math.MinInt, math.MinInt + 1, math.MinInt + 2}
}

// P9.1: ErrArg of a terminal, of a number below 0, of the number of all symbols and beyond.
func TestNumbersOfNoNonterminal(t *testing.T) {
	for _, g := range []api.Grammar{ordinary(), wide(0, 1), wide(api.MaxTerms, api.MaxNames), chain(), full(), read(t, "S = A 'b' ; A = 'a' | ;")} {
		for term := range g.Terms {
			wantErrArg(t, g, term)
		}
		for _, wrong := range wrongNumbers(endOf(g)) {
			if wrong < len(g.Terms) || wrong >= endOf(g) {
				wantErrArg(t, g, wrong)
			}
		}
		for beyond := range 100 {
			wantErrArg(t, g, endOf(g)+beyond)
		}
		for name := range g.Names {
			if _, e := follow.Of(g, len(g.Terms)+name); e != api.OK {
				t.Errorf("Of(%s, %d): %d", short(g), len(g.Terms)+name, e)
			}
		}
	}
	// Spare room of the names, or of the terms, is no symbol.
	g := grammarWithRoom(ordinary())
	wantSets(t, g, [][]int{{0, 4}, {0}})
	wantErrArg(t, g, 4)
	wantErrArg(t, g, 1)
}

// wide is a grammar of so many terminals and nonterminals, each of which stands where it must.
func wide(terms, names int) api.Grammar {
	var g api.Grammar
	for sym := range terms {
		g.Terms = append(g.Terms, fmt.Sprint("t", sym))
	}
	for n := range names {
		g.Names = append(g.Names, fmt.Sprint("n", n))
		g.Rules = append(g.Rules, rule(terms+n))
	}
	for sym := range terms {
		r := &g.Rules[sym/api.MaxRight]
		r.Right = append(r.Right, sym)
	}
	return g
}

// chain is a grammar of as many symbols and rules as there may be, in which each nonterminal ends with the next one, and of which the start alone has terminals of its own behind it: those of odd number.
func chain() api.Grammar {
	const terms, names = api.MaxTerms, api.MaxNames
	g := wide(terms, names)
	for n := range g.Rules {
		g.Rules[n].Right = []int{terms + n + 1}
	}
	g.Rules[names-1].Right = nil
	for sym := 0; len(g.Rules) < api.MaxRules; sym += 2 {
		g.Rules = append(g.Rules, rule(terms+names-1, sym, terms, sym+1))
	}
	return g
}

// backChain is chain the other way round: each nonterminal ends with the one ahead of it, and the last one alone has terminals of its own behind it.
func backChain() api.Grammar {
	const terms, names = api.MaxTerms, api.MaxNames
	g := wide(terms, names)
	for n := range g.Rules {
		g.Rules[n].Right = []int{terms + n - 1}
	}
	g.Rules[0].Right = nil
	for sym := 0; len(g.Rules) < api.MaxRules; sym += 2 {
		g.Rules = append(g.Rules, rule(terms, sym, terms+names-1, sym+1))
	}
	return g
}

// odd is the terminals of odd number.
func odd() []int {
	var l []int
	for sym := 1; sym < api.MaxTerms; sym += 2 {
		l = append(l, sym)
	}
	return l
}

// full is a grammar of as many terminals and rules as there may be; of 20 nonterminals each ends with the next one, and has two terminals of its own behind it.
func full() api.Grammar {
	g := wide(api.MaxTerms, 20)
	g.Rules = nil
	for n := range g.Names {
		left := api.MaxTerms + n
		g.Rules = append(g.Rules, rule(left, left+1), rule(left, left, 2*n, 2*n), rule(left, left, 2*n+1))
	}
	g.Rules[len(g.Rules)-3].Right = nil
	return g
}

// wantGood: g may be.
func wantGood(t *testing.T, g api.Grammar) {
	t.Helper()
	if !grammar.Good(g) {
		t.Fatalf("%s may not be", short(g))
	}
}

// P9.1, P9.2: as many rules and symbols as there may be, each nonterminal by the one ahead of it, or by the one behind it.
func TestManyRules(t *testing.T) {
	const end = api.MaxTerms + api.MaxNames
	g := chain()
	wantGood(t, g)
	wantSets(t, g, slices.Repeat([][]int{append(odd(), end)}, api.MaxNames))
	g = backChain()
	wantGood(t, g)
	want := slices.Repeat([][]int{odd()}, api.MaxNames)
	want[0] = append(odd(), end)
	wantSets(t, g, want)
	// Of rules alone.
	wantSets(t, manyRules(api.MaxRules), [][]int{{0, 2}})
	wantSets(t, manyRules(api.MaxRules-1), [][]int{{0, 2}})
	wantSets(t, manyRules(3), [][]int{{2}})
}

// P9.1, P9.2: a nonterminal that stands last in rules of all the others, and one in whose rules all others stand last.
func TestOneNonterminalInAllRules(t *testing.T) {
	const terms, names, end = api.MaxTerms, api.MaxNames, api.MaxTerms + api.MaxNames
	g := chain()
	for n := range names - 1 {
		g.Rules[n].Right = []int{terms + names - 1}
	}
	wantGood(t, g)
	want := make([][]int, names)
	want[0] = append(odd(), end)
	want[names-1] = want[0]
	wantSets(t, g, want)
	g = wide(terms, names)
	for n := range g.Rules {
		g.Rules[n].Right = nil
	}
	for sym := 0; len(g.Rules) < api.MaxRules; sym += 2 {
		g.Rules = append(g.Rules, rule(terms, sym, terms, sym+1, terms+sym, terms+sym+1))
	}
	wantGood(t, g)
	wantSets(t, g, slices.Repeat([][]int{append(odd(), end)}, names))
}

// P9.1, P9.2: sets of all that there may be: as many terminals as there may be, and the end.
func TestFullSets(t *testing.T) {
	g := full()
	wantGood(t, g)
	var want [][]int
	for n := range g.Names {
		want = append(want, append(span(0, 2*n+2), endOf(g)))
	}
	wantSets(t, g, want)
	// All in one circle: each has all.
	g.Rules[len(g.Rules)-3].Right = []int{api.MaxTerms}
	wantGood(t, g)
	all := append(span(0, api.MaxTerms), endOf(g))
	wantSets(t, g, slices.Repeat([][]int{all}, len(g.Names)))
}

// manyRules is a grammar of one nonterminal, one terminal and so many rules, no two of which are alike.
func manyRules(n int) api.Grammar {
	g := grammarOf("a", "S", rule(1))
	for i := 1; i < n; i++ {
		var right []int
		for rest := i; rest > 0; rest /= 2 {
			right = append(right, rest%2)
		}
		g.Rules = append(g.Rules, rule(1, right...))
	}
	return g
}

// wantNothing: g may not be, so that nothing is told of it.
func wantNothing(t *testing.T, g api.Grammar) {
	t.Helper()
	if l := follow.Sets(g); len(l) != 0 {
		t.Errorf("Sets(%s) = %s", short(g), short(l))
	}
	if l := follow.Last(g); len(l) != 0 {
		t.Errorf("Last(%s) = %s", short(g), short(l))
	}
	for sym := -2; sym < 100; sym++ {
		wantErrArg(t, g, sym)
	}
	for _, sym := range wrongNumbers(4) {
		wantErrArg(t, g, sym)
	}
}

// P9.1, P9.2: grammars that may not be, for each cause that chapter 3 names.
func TestGrammarsThatMayNotBe(t *testing.T) {
	long := strings.Repeat("n", api.MaxName+1)
	for what, change := range map[string]func(g *api.Grammar){
		"nothing":             func(g *api.Grammar) { *g = api.Grammar{} },
		"no rules":            func(g *api.Grammar) { g.Rules = nil },
		"no names":            func(g *api.Grammar) { g.Names = nil },
		"no terms":            func(g *api.Grammar) { g.Terms = nil },
		"no name":             func(g *api.Grammar) { g.Names[1] = "9" },
		"an empty name":       func(g *api.Grammar) { g.Names[1] = "" },
		"a long name":         func(g *api.Grammar) { g.Names[1] = long },
		"names alike":         func(g *api.Grammar) { g.Names[1] = g.Names[0] },
		"a quote in a term":   func(g *api.Grammar) { g.Terms[1] = "'" },
		"a newline in a term": func(g *api.Grammar) { g.Terms[1] = "\n" },
		"an empty term":       func(g *api.Grammar) { g.Terms[1] = "" },
		"a long term":         func(g *api.Grammar) { g.Terms[1] = long },
		"terms alike":         func(g *api.Grammar) { g.Terms[1] = g.Terms[0] },
		"a name without rule": func(g *api.Grammar) { g.Names = append(g.Names, "C") },
		"a term in no rule":   func(g *api.Grammar) { g.Rules[2].Right = nil },
		"a left of a term":    func(g *api.Grammar) { g.Rules[4].Left = 0 },
		"a left below 0":      func(g *api.Grammar) { g.Rules[4].Left = -1 },
		"a left behind all":   func(g *api.Grammar) { g.Rules[4].Left = 4 },
		"a symbol below 0":    func(g *api.Grammar) { g.Rules[4].Right[0] = math.MinInt },
		"a symbol behind all": func(g *api.Grammar) { g.Rules[4].Right[0] = 4 },
		"a huge symbol":       func(g *api.Grammar) { g.Rules[4].Right[0] = 1 << 32 },
		"rules alike":         func(g *api.Grammar) { g.Rules[4] = g.Rules[0] },
		"names out of order":  func(g *api.Grammar) { g.Rules = append([]api.Rule{rule(3)}, g.Rules...) },
		"terms out of order":  func(g *api.Grammar) { g.Rules[0].Right[1] = 1 },
		"a long right side":   func(g *api.Grammar) { g.Rules[4].Right = slices.Repeat([]int{2}, api.MaxRight+1) },
		"a huge right side":   func(g *api.Grammar) { g.Rules[4].Right = slices.Repeat([]int{2}, 1<<22) },
		"many rules":          func(g *api.Grammar) { *g = manyRules(api.MaxRules + 1) },
		"many terms":          func(g *api.Grammar) { *g = wide(api.MaxTerms+1, api.MaxNames) },
		"many names":          func(g *api.Grammar) { *g = wide(api.MaxTerms, api.MaxNames+1) },
		"huge terms":          func(g *api.Grammar) { g.Terms = make([]string, 1<<22) },
		"huge names":          func(g *api.Grammar) { g.Names = make([]string, 1<<22) },
		"huge rules":          func(g *api.Grammar) { g.Rules = make([]api.Rule, 1<<22) },
	} {
		t.Run(what, func(t *testing.T) {
			g := ordinary()
			change(&g)
			wantNothing(t, g)
		})
	}
}

// place is a nonterminal in a derived form, and the symbols that stand behind it, a byte each.
type place struct {
	sym    int
	behind string
}

// walk goes through all places of a grammar's derivations.
type walk struct {
	g      api.Grammar
	rights []string // the right sides, a byte a symbol
	most   int      // how many symbols behind a place are kept
	places []place
	seen   map[place]bool
}

// isFixed: nothing is derived of it any more.
func (w *walk) isFixed(sym byte) bool {
	return int(sym) < len(w.g.Terms) || int(sym) == endOf(w.g)
}

// put lays a place by, if it is new. What stands behind a terminal is not kept: it never comes to stand ahead of it.
func (w *walk) put(sym int, behind string) {
	if behind != "" && w.isFixed(behind[0]) {
		behind = behind[:1]
	}
	p := place{sym, behind[:min(len(behind), w.most)]}
	if !w.seen[p] {
		w.seen[p] = true
		w.places = append(w.places, p)
	}
}

// step derives of a place once: of what stands first behind it, and of the nonterminal itself.
func (w *walk) step(p place) {
	for i, r := range w.g.Rules {
		right := w.rights[i]
		if p.behind != "" && int(p.behind[0]) == r.Left {
			w.put(p.sym, right+p.behind[1:])
		}
		if p.sym != r.Left {
			continue
		}
		for at := range len(right) {
			if sym := right[at]; !w.isFixed(sym) {
				w.put(int(sym), right[at+1:]+p.behind)
			}
		}
	}
}

// derived goes by derivations, of the start with the end behind it, and of each nonterminal with nothing behind it, and tells what comes to stand behind each.
func derived(g api.Grammar, most int) [][]int {
	w := &walk{g: g, most: most, seen: map[place]bool{}}
	for _, r := range g.Rules {
		var right []byte
		for _, sym := range r.Right {
			right = append(right, byte(sym))
		}
		w.rights = append(w.rights, string(right))
	}
	w.put(len(g.Terms), string([]byte{byte(endOf(g))}))
	for name := range g.Names {
		w.put(len(g.Terms)+name, "")
	}
	sets := make([][]int, len(g.Names))
	for i := 0; i < len(w.places); i++ {
		p := w.places[i]
		if name := p.sym - len(g.Terms); p.behind != "" && w.isFixed(p.behind[0]) {
			sets[name] = append(sets[name], int(p.behind[0]))
		}
		w.step(p)
	}
	return risen(sets)
}

// risen is the lists, each rising, and nothing twice.
func risen(sets [][]int) [][]int {
	for name, l := range sets {
		slices.Sort(l)
		sets[name] = slices.Compact(l)
	}
	return sets
}

// least is the sets by the chapter's words: what each place in the rules asks is added, over and over, until nothing is missing.
func least(g api.Grammar) [][]int {
	terms := len(g.Terms)
	sets := make([][]int, len(g.Names))
	sets[0] = []int{endOf(g)}
	for missing := true; missing; {
		missing = false
		for _, r := range g.Rules {
			for i, sym := range r.Right {
				if sym < terms {
					continue
				}
				l, _ := first.Of(g, r.Right[i+1:])
				if nullable.All(g, r.Right[i+1:]) {
					l = append(l, sets[r.Left-terms]...)
				}
				for _, what := range l {
					if !slices.Contains(sets[sym-terms], what) {
						sets[sym-terms] = append(sets[sym-terms], what)
						missing = true
					}
				}
			}
		}
	}
	return risen(sets)
}

// eachGrammar hands on all grammars of those symbols and of up to most rules, with right sides of up to long symbols.
func eachGrammar(terms, names string, most, long int, do func(api.Grammar)) {
	g := grammarOf(terms, names)
	symbols := len(g.Terms) + len(g.Names)
	rights := [][]int{nil}
	for from := 0; len(rights[from]) < long; from++ {
		for sym := range symbols {
			rights = append(rights, append(slices.Clone(rights[from]), sym))
		}
	}
	var grow func()
	grow = func() {
		if grammar.Good(g) {
			do(g)
		}
		if len(g.Rules) == most {
			return
		}
		for left := len(g.Terms); left < symbols; left++ {
			for _, right := range rights {
				g.Rules = append(g.Rules, rule(left, right...))
				grow()
				g.Rules = g.Rules[:len(g.Rules)-1]
			}
		}
	}
	grow()
}

// P9.1, P9.2, P9.3: all small grammars, held against their derivations. With right sides of two a symbol comes to nothing by forms of at most as many symbols as there are nonterminals: so much, and what stands behind, is kept.
func TestAllSmallGrammars(t *testing.T) {
	seen := 0
	check := func(g api.Grammar) {
		seen++
		wantSets(t, g, derived(g, len(g.Names)+3))
	}
	eachGrammar("", "S", 3, 2, check)
	eachGrammar("a", "S", 3, 2, check)
	eachGrammar("a b", "S", 3, 2, check)
	eachGrammar("", "S T", 4, 2, check)
	eachGrammar("a", "S T", 3, 2, check)
	eachGrammar("a b", "S T", 3, 2, check)
	eachGrammar("a", "S T U", 3, 2, check)
	if seen < 20000 {
		t.Errorf("%d grammars alone", seen)
	}
}

// P9.1, P9.2: grammars of right sides of three, held against their derivations.
func TestGrammarsOfRightSidesOfThree(t *testing.T) {
	seen := 0
	check := func(g api.Grammar) {
		seen++
		wantSets(t, g, derived(g, 2*len(g.Names)+4))
	}
	eachGrammar("a", "S", 3, 3, check)
	eachGrammar("a", "S T", 2, 3, check)
	if seen < 500 {
		t.Errorf("%d grammars alone", seen)
	}
}

// mixed is a grammar of up to as many rules and symbols as there may be, made by a fixed reckoning from that number.
func mixed(t *testing.T, number uint32) api.Grammar {
	const names = "ABCDEFGHIJKLMNOPQRSTUVWXYZabcdefghijklmn"
	draw := func(below int) int {
		number = number*1664525 + 1013904223
		return int(number>>16) % below
	}
	kinds, most, quotes := 2+draw(api.MaxNames-1), 1+draw(5), 1+draw(90)
	var s strings.Builder
	for n := range api.MaxRules {
		s.WriteString(names[n%kinds : n%kinds+1])
		s.WriteString("=")
		for range draw(most + 1) {
			if draw(100) < quotes {
				s.WriteString("'" + names[draw(api.MaxTerms):][:1] + "'")
			} else {
				s.WriteString(" " + names[draw(kinds):][:1])
			}
		}
		s.WriteString(";")
	}
	return read(t, s.String())
}

// P9.1, P9.2, P9.3: grammars of many rules, held against the chapter's words.
func TestMixedGrammars(t *testing.T) {
	for number := range uint32(120) {
		g := mixed(t, number)
		wantSets(t, g, least(g))
	}
	for _, g := range []api.Grammar{ordinary(), chain(), backChain(), full(), wide(api.MaxTerms, api.MaxNames), manyRules(api.MaxRules)} {
		wantSets(t, g, least(g))
	}
}

func whole[T any](l []T) []T { return l[:cap(l)] }

// withRoom is l in a list that has spare room, which is filled.
func withRoom[T any](l []T, spare T) []T {
	return append(slices.Clone(l), spare, spare)[:len(l)]
}

// grammarWithRoom is g in lists that have spare room, which is filled.
func grammarWithRoom(g api.Grammar) api.Grammar {
	g.Terms = withRoom(g.Terms, "spare")
	g.Names = withRoom(g.Names, "spare")
	g.Rules = withRoom(g.Rules, rule(9, 9))
	for i, r := range g.Rules {
		g.Rules[i].Right = withRoom(r.Right, 9)
	}
	return g
}

// roomOf is all that g's lists have, spare room included.
func roomOf(g api.Grammar) string {
	s := fmt.Sprintf("%q %q %v", whole(g.Terms), whole(g.Names), whole(g.Rules))
	for _, r := range g.Rules {
		s += fmt.Sprint(whole(r.Right))
	}
	return s
}

// Rule 2 of the document: what is handed in is not changed, its spare room included.
func TestArgumentsAreNotChanged(t *testing.T) {
	wrong := ordinary()
	wrong.Rules[4].Right[0] = 7
	for _, x := range []api.Grammar{ordinary(), wrong, chain(), backChain(), full()} {
		g := grammarWithRoom(x)
		before := roomOf(g)
		follow.Sets(g)
		follow.Last(g)
		for sym := range 100 {
			follow.Of(g, sym-1)
		}
		if after := roomOf(g); after != before {
			t.Errorf("%s was changed to %s", before, after)
		}
	}
}

// spoil writes over all that the lists have, spare room included.
func spoil(lists ...[]int) {
	for _, l := range lists {
		for i := range whole(l) {
			whole(l)[i] = -7
		}
	}
}

// Rule 2 of the document: what is told is new memory: no two lists of one answer, no two answers, and no answer and an argument share any.
func TestAnswersAreNew(t *testing.T) {
	for _, g := range []api.Grammar{ordinary(), chain(), full(), read(t, "S = A 'b' S ; A = 'a' | ;")} {
		want := follow.Sets(g)
		for n := range want {
			l := follow.Sets(g)
			spoil(l[n])
			l[n] = want[n]
			if !slices.EqualFunc(l, want, slices.Equal[[]int]) {
				t.Errorf("%s: list %d shares memory with others of its answer", short(g), n)
			}
			// Behind the lists' ends, too.
			l = follow.Sets(g)
			l[n] = append(l[n], -7)
			l[n] = want[n]
			if !slices.EqualFunc(l, want, slices.Equal[[]int]) {
				t.Errorf("%s: list %d has room in common with others of its answer", short(g), n)
			}
		}
		kept, last := follow.Sets(g), follow.Last(g)
		spoil(follow.Sets(g)...)
		other := follow.Last(g)
		for i := range whole(other) {
			whole(other)[i] = !last[i%len(last)]
		}
		if !slices.EqualFunc(kept, want, slices.Equal[[]int]) {
			t.Errorf("%s: one list was handed out twice", short(g))
		}
		for name, l := range want {
			one, _ := follow.Of(g, len(g.Terms)+name)
			two, _ := follow.Of(g, len(g.Terms)+name)
			spoil(one)
			if !slices.Equal(two, l) || last[name] != slices.Contains(l, endOf(g)) {
				t.Errorf("%s: nonterminal %d shares memory", short(g), name)
			}
		}
		wantSets(t, g, want)
	}
}

// Rules 2 and 4 of the document: nil and empty lists are one, and neither what was told before nor what stands in spare room is to be seen in an answer.
func TestAnswersHangOnArgumentsAlone(t *testing.T) {
	empty := api.Grammar{Terms: []string{}, Names: []string{"S"}, Rules: []api.Rule{{Right: []int{}}}}
	for range 200 {
		wantSets(t, empty, [][]int{{1}})
		wantNothing(t, api.Grammar{})
		wantSets(t, grammarWithRoom(ordinary()), [][]int{{0, 4}, {0}})
		wantErrArg(t, ordinary(), 4)
		wantNames(t, "S = S ;", "$")
		wantNames(t, "S = S 'a' | ;", "a $")
		wantNames(t, "S = A 'b' ; A = 'a' ;", "$", "b")
		wantNames(t, "A = A 'b' ; S = 'a' ;", "b $", "")
	}
}

// Rule 5 of the document: what goroutines a call begins are over when it ends.
func TestGoroutinesAreOver(t *testing.T) {
	before := runtime.NumGoroutine()
	for range 200 {
		for _, g := range []api.Grammar{ordinary(), chain(), full(), {}} {
			follow.Sets(g)
			follow.Last(g)
			follow.Of(g, len(g.Terms))
			follow.Of(g, -1)
		}
	}
	// A goroutine that is over may be counted for a moment.
	for wait := 0; runtime.NumGoroutine() > before && wait < 1000; wait++ {
		time.Sleep(time.Millisecond)
	}
	if after := runtime.NumGoroutine(); after > before {
		t.Errorf("%d goroutines go on", after-before)
	}
}
