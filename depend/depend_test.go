package depend_test

import (
	"fmt"
	"math"
	"runtime"
	"slices"
	"strings"
	"testing"
	"time"

	"topiarist/api"
	"topiarist/depend"
	"topiarist/grammar"
)

func rule(left int, right ...int) api.Rule { return api.Rule{Left: left, Right: right} }

// grammarOf is a grammar whose terms, and names, are parted by blanks.
func grammarOf(terms, names string, rules ...api.Rule) api.Grammar {
	return api.Grammar{Terms: strings.Fields(terms), Names: strings.Fields(names), Rules: rules}
}

// ordinary is a grammar that may be: A = B 'x' | ; B = 'y' 'x' | A ; A = 'x' ;
func ordinary() api.Grammar {
	return grammarOf("x y", "A B", rule(2, 3, 0), rule(2), rule(3, 1, 0), rule(3, 2), rule(2, 0))
}

// read is the grammar that s is the text of.
func read(t *testing.T, s string) api.Grammar {
	t.Helper()
	g, f := grammar.Of(s)
	if f != (api.Fault{}) {
		t.Fatalf("Of(%q): %v", s, f)
	}
	return g
}

// short is x for a message, cut where x is huge.
func short(x any) string {
	const most = 300
	s := fmt.Sprintf("%v", x)
	if len(s) > most {
		s = s[:most] + " .."
	}
	return s
}

// span is the numbers from one on up to another one.
func span(from, to int) []int {
	var l []int
	for n := from; n < to; n++ {
		l = append(l, n)
	}
	return l
}

func at(rule, dot int) api.Spot { return api.Spot{Rule: rule, Dot: dot} }

// spots is the list of places that are told as rule and dot by turns.
func spots(numbers ...int) []api.Spot {
	var l []api.Spot
	for i := 0; i < len(numbers); i += 2 {
		l = append(l, at(numbers[i], numbers[i+1]))
	}
	return l
}

// answer is what depend tells of a grammar without some occurrences.
type answer struct {
	on         [][]bool
	components []int
	inner      []api.Spot
}

func ask(g api.Grammar, without []api.Spot) answer {
	return answer{depend.On(g, without), depend.Components(g, without), depend.Inner(g, without)}
}

func (a answer) equal(b answer) bool {
	return slices.EqualFunc(a.on, b.on, slices.Equal[[]bool]) && slices.Equal(a.components, b.components) && slices.Equal(a.inner, b.inner)
}

// wantAnswer: that is told of the grammar without those occurrences.
func wantAnswer(t *testing.T, g api.Grammar, without []api.Spot, want answer) {
	t.Helper()
	if got := ask(g, without); !got.equal(want) {
		t.Errorf("%s without %s: %s; want %s", short(g), short(without), short(got), short(want))
	}
}

// wantSpots: those are all occurrences.
func wantSpots(t *testing.T, g api.Grammar, want []api.Spot) {
	t.Helper()
	if got := depend.Spots(g); !slices.Equal(got, want) {
		t.Errorf("Spots(%s) = %s; want %s", short(g), short(got), short(want))
	}
}

// onOf is lists of names as On tells them: of each nonterminal those on which it hangs.
func onOf(g api.Grammar, lists []string) [][]bool {
	var on [][]bool
	for _, list := range lists {
		row := make([]bool, len(g.Names))
		for name, text := range g.Names {
			row[name] = slices.Contains(strings.Fields(list), text)
		}
		on = append(on, row)
	}
	return on
}

// firsts is names as Components tells them.
func firsts(g api.Grammar, names string) []int {
	var l []int
	for _, text := range strings.Fields(names) {
		l = append(l, slices.Index(g.Names, text))
	}
	return l
}

// wantNames: of the grammar that s is the text of, without those occurrences, those are the inner ones, that is each nonterminal's component by its first one's name, and on those names the nonterminals hang.
func wantNames(t *testing.T, s string, without, inner []api.Spot, components string, on ...string) {
	t.Helper()
	g := read(t, s)
	wantAnswer(t, g, without, answer{onOf(g, on), firsts(g, components), inner})
}

// P10.1: all occurrences, by rules, then places; terminals' places are none.
func TestSpots(t *testing.T) {
	wantSpots(t, read(t, "S = S 'a' | A ; A = ;"), spots(0, 0, 1, 0))
	wantSpots(t, read(t, "S = ;"), nil)
	wantSpots(t, read(t, "S = 'a' 'b' | 'c' ;"), nil)
	wantSpots(t, read(t, "S = A 'x' A A | 'a' ; A = 'y' S ; B = 'z' 'z' 'z' B ;"), spots(0, 0, 0, 2, 0, 3, 2, 1, 3, 3))
	wantSpots(t, read(t, "S = A 'S' | 'A' A 'A' ; A = 'x' ;"), spots(0, 0, 1, 1))
	wantSpots(t, ordinary(), spots(0, 0, 3, 0))
	// Rules of one left side stand apart where others stand between.
	wantSpots(t, read(t, "S = A ; A = 'a' ; S = 'b' S ; A = A A ;"), spots(0, 0, 2, 1, 3, 0, 3, 1))
	wantSpots(t, read(t, "S = S S S S S S S S ;"), spots(0, 0, 0, 1, 0, 2, 0, 3, 0, 4, 0, 5, 0, 6, 0, 7))
}

// P10.1, P10.2: the chapter's example: (0, 0) is inner, (1, 0) is not.
func TestExample(t *testing.T) {
	const text = "S = S 'a' | A ; A = ;"
	wantNames(t, text, nil, spots(0, 0), "S A", "S A", "")
	wantNames(t, text, spots(0, 0), nil, "S A", "A", "")
	wantNames(t, text, spots(1, 0), spots(0, 0), "S A", "S", "")
	wantNames(t, text, spots(0, 0, 1, 0), nil, "S A", "", "")
}

// P10.1, P10.2: nonterminals that hang on each other in a circle are one component, all their occurrences in it are inner.
func TestCircles(t *testing.T) {
	wantNames(t, "S = A ; A = 'x' S ;", nil, spots(0, 0, 1, 1), "S S", "S A", "S A")
	wantNames(t, "S = 'x' A ; A = B 'y' ; B = 'z' S | 'b' ;", nil, spots(0, 1, 1, 0, 2, 1), "S S S", "S A B", "S A B", "S A B")
	wantNames(t, "A = B ; B = C ; C = D ; D = E ; E = A ;", nil, spots(0, 0, 1, 0, 2, 0, 3, 0, 4, 0), "A A A A A",
		"A B C D E", "A B C D E", "A B C D E", "A B C D E", "A B C D E")
	// The other way round.
	wantNames(t, "A = E ; B = A ; C = B ; D = C ; E = D ;", nil, spots(0, 0, 1, 0, 2, 0, 3, 0, 4, 0), "A A A A A",
		"A B C D E", "A B C D E", "A B C D E", "A B C D E", "A B C D E")
	// Two circles that have one nonterminal in common are one component.
	wantNames(t, "S = A B ; A = S ; B = 'x' S ;", nil, spots(0, 0, 0, 1, 1, 0, 2, 1), "S S S", "S A B", "S A B", "S A B")
	wantNames(t, "E = T | E '+' T ; T = F | T '*' F ; F = '(' E ')' | 'x' ;", nil, spots(0, 0, 1, 0, 1, 2, 2, 0, 3, 0, 3, 2, 4, 1), "E E E", "E T F", "E T F", "E T F")
}

// P10.1, P10.2: a nonterminal that hangs on itself alone.
func TestNonterminalsThatHangOnThemselves(t *testing.T) {
	wantNames(t, "S = S ;", nil, spots(0, 0), "S", "S")
	wantNames(t, "S = 'a' S 'b' | ;", nil, spots(0, 1), "S", "S")
	wantNames(t, "S = A ; A = A 'a' | ;", nil, spots(1, 0), "S A", "A", "A")
	wantNames(t, "S = S A ; A = 'a' A | S 'b' ;", nil, spots(0, 0, 0, 1, 1, 1, 2, 0), "S S", "S A", "S A")
	wantNames(t, "S = 'x' ; A = A ; B = 'b' B ;", nil, spots(1, 0, 2, 1), "S A B", "", "A", "B")
}

// P10.1, P10.2: chains: each hangs on all behind it, and is a component by itself; nothing is inner.
func TestChains(t *testing.T) {
	wantNames(t, "S = 'x' ;", nil, nil, "S", "")
	wantNames(t, "S = T ; T = U ; U = 'x' ;", nil, nil, "S T U", "T U", "U", "")
	wantNames(t, "A = 'x' B ; B = C 'y' ; C = 'z' D 'z' ; D = E ; E = ;", nil, nil, "A B C D E", "B C D E", "C D E", "D E", "E", "")
	wantNames(t, "A = 'a' ; B = A ; C = B ; D = C ; E = D ;", nil, nil, "A B C D E", "", "A", "A B", "A B C", "A B C D")
	wantNames(t, "S = A B ; A = C | 'a' ; B = C ; C = 'c' ;", nil, nil, "S A B C", "A B C", "C", "C", "")
}

// P10.1, P10.2: two circles of which one leads into the other are two components; what leads from one into the other is not inner.
func TestTwoCircles(t *testing.T) {
	wantNames(t, "A = B ; B = A | C ; C = D ; D = C | 'x' ;", nil, spots(0, 0, 1, 0, 3, 0, 4, 0), "A A C C", "A B C D", "A B C D", "C D", "C D")
	wantNames(t, "C = D ; D = C | 'x' ; A = B ; B = A 'y' D ;", nil, spots(0, 0, 1, 0, 3, 0, 4, 0), "C C A A", "C D", "C D", "C D A B", "C D A B")
	// By a third one between them.
	wantNames(t, "A = A B ; B = 'x' C ; C = C | ;", nil, spots(0, 0, 2, 0), "A B C", "A B C", "C", "C")
	// In one right side stand inner ones and others.
	wantNames(t, "S = S A 'x' B S ; A = 'a' ; B = B A | S ;", nil, spots(0, 0, 0, 3, 0, 4, 2, 0, 3, 0), "S A S", "S A B", "", "S A B")
	// Both ways: one component.
	wantNames(t, "A = B ; B = A | C ; C = D ; D = C | A ;", nil, spots(0, 0, 1, 0, 2, 0, 3, 0, 4, 0, 5, 0), "A A A A", "A B C D", "A B C D", "A B C D", "A B C D")
}

// P10.1: one that hangs on a circle, and one that a circle hangs on, are of components of their own.
func TestBesideACircle(t *testing.T) {
	wantNames(t, "S = A ; A = B ; B = A C ; C = 'c' ;", nil, spots(1, 0, 2, 0), "S A A C", "A B C", "A B C", "A B C", "")
	wantNames(t, "A = B C ; B = 'b' ; C = 'c' A ;", nil, spots(0, 1, 2, 1), "A B A", "A B C", "", "A B C")
	// Two that hang on the same, and two on which the same hangs, are two.
	wantNames(t, "S = A B ; A = C ; B = C ; C = C ;", nil, spots(3, 0), "S A B C", "A B C", "C", "C", "C")
}

// P10.1: a nonterminal that stands twice in one right side is two occurrences: one that is left out leaves the other.
func TestTwiceInARightSide(t *testing.T) {
	const text = "S = A 'x' A ; A = S | 'a' ;"
	wantSpots(t, read(t, text), spots(0, 0, 0, 2, 1, 0))
	wantNames(t, text, nil, spots(0, 0, 0, 2, 1, 0), "S S", "S A", "S A")
	wantNames(t, text, spots(0, 0), spots(0, 2, 1, 0), "S S", "S A", "S A")
	wantNames(t, text, spots(0, 2), spots(0, 0, 1, 0), "S S", "S A", "S A")
	wantNames(t, text, spots(0, 2, 0, 0), nil, "S A", "", "S")
	wantNames(t, "S = S S ;", spots(0, 0), spots(0, 1), "S", "S")
	wantNames(t, "S = S S ;", spots(0, 1), spots(0, 0), "S", "S")
	wantNames(t, "S = S S | ;", spots(0, 1, 0, 0), nil, "S", "")
	// In two rules of one left side, too.
	wantNames(t, "S = A | A 'b' ; A = S ;", spots(1, 0), spots(0, 0, 2, 0), "S S", "S A", "S A")
	wantNames(t, "S = A | A 'b' ; A = S ;", spots(0, 0, 1, 0), nil, "S A", "", "S")
}

// P10.1: occurrences that are left out: one that cuts a circle, several, all.
func TestWithout(t *testing.T) {
	const text = "S = A ; A = B ; B = S | 'b' ;"
	wantNames(t, text, spots(0, 0), nil, "S A B", "", "S B", "S")
	wantNames(t, text, spots(1, 0), nil, "S A B", "A", "", "S A")
	wantNames(t, text, spots(2, 0), nil, "S A B", "A B", "B", "")
	wantNames(t, text, spots(0, 0, 1, 0), nil, "S A B", "", "", "S")
	wantNames(t, text, spots(0, 0, 1, 0, 2, 0), nil, "S A B", "", "", "")
	// A circle that is cut at one place may go round at another one.
	const two = "S = A 'x' S ; A = B ; B = S A | 'b' ;"
	wantNames(t, two, spots(2, 0), spots(0, 2, 1, 0, 2, 1), "S A A", "S A B", "A B", "A B")
	wantNames(t, two, spots(2, 1), spots(0, 0, 0, 2, 1, 0, 2, 0), "S S S", "S A B", "S A B", "S A B")
	wantNames(t, two, spots(2, 1, 0, 0), spots(0, 2), "S A B", "S", "S B", "S")
	wantNames(t, two, spots(1, 0), spots(0, 2), "S A B", "S A", "", "S A")
	// What is left out is not inner, though its left side and its nonterminal are of one component.
	wantNames(t, "S = S | A ; A = A 'a' | A | S ;", spots(0, 0, 2, 0, 3, 0), spots(1, 0, 4, 0), "S S", "S A", "S A")
}

// P10.1: the order in which occurrences are left out, and how often each is named, is nothing.
func TestWithoutInAnyOrder(t *testing.T) {
	g := read(t, "S = A 'x' S ; A = B ; B = S A | 'b' ;")
	want := ask(g, spots(0, 0, 2, 0, 2, 1))
	if !slices.Equal(want.inner, spots(0, 2)) {
		t.Errorf("inner: %v", want.inner)
	}
	for _, without := range [][]api.Spot{
		spots(0, 0, 2, 1, 2, 0), spots(2, 0, 0, 0, 2, 1), spots(2, 0, 2, 1, 0, 0), spots(2, 1, 0, 0, 2, 0), spots(2, 1, 2, 0, 0, 0),
		spots(0, 0, 0, 0, 2, 0, 2, 1), spots(2, 1, 2, 0, 2, 1, 0, 0, 2, 1), slices.Repeat(spots(2, 1, 0, 0, 2, 0), 1000),
	} {
		wantAnswer(t, g, without, want)
	}
}

// noise is Spots that are no occurrences of a grammar: of rules that there are not, of places below 0 and behind the right side, of terminals' places.
func noise(g api.Grammar) []api.Spot {
	var l []api.Spot
	for _, wrong := range []int{-1, -2, math.MinInt, math.MinInt + 1, len(g.Rules), len(g.Rules) + 1, 1 << 31, 1 << 32, -1 << 32, math.MaxInt} {
		l = append(l, at(wrong, 0), at(wrong, 1), at(wrong, wrong))
	}
	for i, r := range g.Rules {
		for _, wrong := range []int{-1, -2, math.MinInt, len(r.Right), len(r.Right) + 1, 1 << 31, 1 << 32, 1<<32 + 1, -1 << 32, math.MaxInt} {
			l = append(l, at(i, wrong))
		}
		for dot, sym := range r.Right {
			if sym < len(g.Terms) {
				l = append(l, at(i, dot))
			}
		}
	}
	return l
}

// P10.1: Spots that are no occurrences count for nothing, by themselves and among others.
func TestSpotsThatAreNoOccurrences(t *testing.T) {
	for _, g := range []api.Grammar{ordinary(), read(t, "S = A 'x' S ; A = B ; B = S A | 'b' ;"), read(t, "S = S 'a' | A ; A = ;"), circle(), chain(), full()} {
		l := noise(g)
		want := ask(g, nil)
		wantAnswer(t, g, l, want)
		for _, wrong := range l {
			wantAnswer(t, g, []api.Spot{wrong}, want)
		}
		for _, out := range depend.Spots(g) {
			want := ask(g, []api.Spot{out})
			if slices.Contains(want.inner, out) {
				t.Errorf("%s: %v is left out, and inner", short(g), out)
			}
			wantAnswer(t, g, append(slices.Clone(l), out), want)
			wantAnswer(t, g, append([]api.Spot{out}, l...), want)
		}
	}
	// Neither counts what stands in the right sides' spare room.
	g := grammarWithRoom(ordinary())
	wantAnswer(t, g, spots(0, 2, 1, 0, 2, 2, 3, 1, 5, 0), ask(ordinary(), nil))
	wantSpots(t, g, spots(0, 0, 3, 0))
}

// P10.1: a list of Spots of any size.
func TestManySpotsWithout(t *testing.T) {
	g := read(t, "S = A 'x' S ; A = B ; B = S A | 'b' ;")
	many := slices.Repeat(append(noise(g), spots(2, 0)...), 1<<14)
	wantAnswer(t, g, many, ask(g, spots(2, 0)))
	wantAnswer(t, full(), make([]api.Spot, 1<<22), ask(full(), spots(0, 0)))
	wantAnswer(t, api.Grammar{}, make([]api.Spot, 1<<22), answer{})
}

// P10.1: a nonterminal by itself is a component, whether it hangs on itself or not; On alone tells which.
func TestComponentsOfOne(t *testing.T) {
	wantNames(t, "S = A ; A = ;", nil, nil, "S A", "A", "")
	wantNames(t, "S = S A ; A = A | ;", nil, spots(0, 0, 1, 0), "S A", "S A", "A")
	wantNames(t, "S = S A ; A = A | ;", spots(0, 0, 1, 0), nil, "S A", "A", "")
	g := wide(api.MaxTerms, api.MaxNames)
	wantAnswer(t, g, nil, answer{onOf(g, make([]string, api.MaxNames)), span(0, api.MaxNames), nil})
	wantSpots(t, g, nil)
}

// P10.1: a component's first one is by Names, not by which rules or occurrences stand first, nor by the text.
func TestFirstByNames(t *testing.T) {
	wantNames(t, "Z = 'z' ; Y = A ; A = Y ;", nil, spots(1, 0, 2, 0), "Z Y Y", "", "Y A", "Y A")
	wantNames(t, "Z = B C ; Y = B ; B = Y ; X = C ; C = X ;", nil, spots(1, 0, 2, 0, 3, 0, 4, 0), "Z Y Y X X", "Y B X C", "Y B", "Y B", "X C", "X C")
}

// P10.1: nonterminals that the start does not reach count as they stand, and so do those that derive nothing.
func TestNonterminalsThatAreNotReached(t *testing.T) {
	wantNames(t, "S = 'x' ; C = D ; D = C ; E = C ;", nil, spots(1, 0, 2, 0), "S C C E", "", "C D", "C D", "C D")
	wantNames(t, "S = 'x' ; C = S 'a' C ;", nil, spots(1, 2), "S C", "", "S C")
	wantNames(t, "S = N ; N = N 'a' N ;", nil, spots(1, 0, 1, 2), "S N", "N", "N")
}

// P10.1: rules that are nothing, and terminals that have a nonterminal's text, make nothing hang on anything.
func TestTerminalsMakeNoOccurrence(t *testing.T) {
	wantNames(t, "S = 'S' 'A' | ; A = 'S' | ;", nil, nil, "S A", "", "")
	wantNames(t, "S = 'A' A ; A = 'S' | ;", nil, nil, "S A", "A", "")
}

// wide is a grammar of so many terminals and nonterminals, each of which stands where it must.
func wide(terms, names int) api.Grammar {
	var g api.Grammar
	for sym := range terms {
		g.Terms = append(g.Terms, fmt.Sprint("t", sym))
	}
	for n := range names {
		g.Names = append(g.Names, fmt.Sprint("n", n))
		g.Rules = append(g.Rules, rule(terms+n))
	}
	for sym := range terms {
		r := &g.Rules[sym/api.MaxRight]
		r.Right = append(r.Right, sym)
	}
	return g
}

// wantGood: g may be.
func wantGood(t *testing.T, g api.Grammar) {
	t.Helper()
	if !grammar.Good(g) {
		t.Fatalf("%s may not be", short(g))
	}
}

// mesh is a grammar of as many nonterminals, terminals and rules as there may be, in which each nonterminal hangs on the one that comes so far behind it, round and round.
func mesh(step int) api.Grammar {
	const terms, names = api.MaxTerms, api.MaxNames
	g := wide(terms, names)
	for n := range g.Rules {
		g.Rules[n].Right = []int{terms + (n+step)%names}
	}
	for sym := 0; len(g.Rules) < api.MaxRules; sym += 2 {
		g.Rules = append(g.Rules, rule(terms, sym, sym+1))
	}
	return g
}

func circle() api.Grammar { return mesh(1) }

// chain is a circle whose last nonterminal is nothing.
func chain() api.Grammar {
	g := circle()
	g.Rules[api.MaxNames-1].Right = nil
	return g
}

// full is a grammar of as many nonterminals, rules and occurrences as there may be, in which all hang on all.
func full() api.Grammar {
	var g api.Grammar
	for n := range api.MaxNames {
		g.Names = append(g.Names, fmt.Sprint("n", n))
	}
	for i := range api.MaxRules {
		r := rule(i % api.MaxNames)
		for dot := range api.MaxRight {
			r.Right = append(r.Right, (i+1+dot*(1+i/api.MaxNames))%api.MaxNames)
		}
		g.Rules = append(g.Rules, r)
	}
	return g
}

// filled is so many times the same.
func filled[T any](many int, x T) []T { return slices.Repeat([]T{x}, many) }

// allOn is that all of so many nonterminals hang on all.
func allOn(names int) [][]bool {
	var on [][]bool
	for range names {
		on = append(on, filled(names, true))
	}
	return on
}

// firstsOfRules is the first places of the first so many rules.
func firstsOfRules(many int) []api.Spot {
	var l []api.Spot
	for i := range many {
		l = append(l, at(i, 0))
	}
	return l
}

// P10.1, P10.2: as many nonterminals as there may be in one circle, by whichever order, and in several.
func TestGreatCircles(t *testing.T) {
	const names = api.MaxNames
	for step := range names {
		g := mesh(step)
		wantGood(t, g)
		parts := names // how many circles there are: the greatest number that divides both
		for step%parts != 0 || names%parts != 0 {
			parts--
		}
		want := answer{inner: firstsOfRules(names)}
		for n := range names {
			row := make([]bool, names)
			for other := n % parts; other < names; other += parts {
				row[other] = true
			}
			want.on = append(want.on, row)
			want.components = append(want.components, n%parts)
		}
		wantAnswer(t, g, nil, want)
		wantSpots(t, g, want.inner)
	}
}

// P10.1, P10.2: as many nonterminals as there may be in one chain, and a circle of as many, cut at each place.
func TestGreatChains(t *testing.T) {
	const names = api.MaxNames
	g := circle()
	for cut := range names {
		want := answer{components: span(0, names)}
		for n := range names {
			row := make([]bool, names)
			for other := n; other != cut; {
				other = (other + 1) % names
				row[other] = true
			}
			want.on = append(want.on, row)
		}
		wantAnswer(t, g, spots(cut, 0), want)
	}
	wantGood(t, chain())
	wantAnswer(t, chain(), nil, ask(g, spots(names-1, 0)))
	wantSpots(t, chain(), firstsOfRules(names-1))
}

// P10.1, P10.2: as many rules and occurrences as there may be, with none left out, with all but a circle, with all.
func TestManyOccurrences(t *testing.T) {
	const names = api.MaxNames
	g := full()
	wantGood(t, g)
	var all []api.Spot
	for i := range api.MaxRules {
		for dot := range api.MaxRight {
			all = append(all, at(i, dot))
		}
	}
	wantSpots(t, g, all)
	wantAnswer(t, g, nil, answer{allOn(names), make([]int, names), all})
	wantAnswer(t, g, all, answer{onOf(g, make([]string, names)), span(0, names), nil})
	// The first places of the first rules make a circle of all.
	var others []api.Spot
	for _, spot := range all {
		if spot.Dot > 0 || spot.Rule >= names {
			others = append(others, spot)
		}
	}
	wantAnswer(t, g, others, answer{allOn(names), make([]int, names), firstsOfRules(names)})
	slices.Reverse(others)
	wantAnswer(t, g, append(others, at(names/2, 0)), ask(circle(), spots(names/2, 0)))
	// Of rules of one nonterminal alone.
	many := manyRules(api.MaxRules)
	var inner []api.Spot
	for i, r := range many.Rules {
		for dot, sym := range r.Right {
			if sym == 1 {
				inner = append(inner, at(i, dot))
			}
		}
	}
	wantSpots(t, many, inner)
	wantAnswer(t, many, nil, answer{allOn(1), []int{0}, inner})
	wantAnswer(t, many, inner, answer{[][]bool{{false}}, []int{0}, nil})
	wantAnswer(t, many, inner[1:], answer{allOn(1), []int{0}, inner[:1]})
}

// wantNothing: g may not be, so that nothing is told of it.
func wantNothing(t *testing.T, g api.Grammar) {
	t.Helper()
	if l := depend.Spots(g); len(l) != 0 {
		t.Errorf("Spots(%s) = %s", short(g), short(l))
	}
	for _, without := range [][]api.Spot{nil, spots(0, 0), spots(0, 1, 2, 0, -1, 7), spots(1<<32, 1<<32, 4, 0)} {
		wantAnswer(t, g, without, answer{})
	}
}

// manyRules is a grammar of one nonterminal, one terminal and so many rules, no two of which are alike.
func manyRules(n int) api.Grammar {
	g := grammarOf("a", "S", rule(1))
	for i := 1; i < n; i++ {
		var right []int
		for rest := i; rest > 0; rest /= 2 {
			right = append(right, rest%2)
		}
		g.Rules = append(g.Rules, rule(1, right...))
	}
	return g
}

// P10.1: grammars that may not be, for each cause that chapter 3 names.
func TestGrammarsThatMayNotBe(t *testing.T) {
	long := strings.Repeat("n", api.MaxName+1)
	for what, change := range map[string]func(g *api.Grammar){
		"nothing":             func(g *api.Grammar) { *g = api.Grammar{} },
		"no rules":            func(g *api.Grammar) { g.Rules = nil },
		"no names":            func(g *api.Grammar) { g.Names = nil },
		"no terms":            func(g *api.Grammar) { g.Terms = nil },
		"no name":             func(g *api.Grammar) { g.Names[1] = "9" },
		"an empty name":       func(g *api.Grammar) { g.Names[1] = "" },
		"a long name":         func(g *api.Grammar) { g.Names[1] = long },
		"names alike":         func(g *api.Grammar) { g.Names[1] = g.Names[0] },
		"a quote in a term":   func(g *api.Grammar) { g.Terms[1] = "'" },
		"a newline in a term": func(g *api.Grammar) { g.Terms[1] = "\n" },
		"an empty term":       func(g *api.Grammar) { g.Terms[1] = "" },
		"a long term":         func(g *api.Grammar) { g.Terms[1] = long },
		"terms alike":         func(g *api.Grammar) { g.Terms[1] = g.Terms[0] },
		"a name without rule": func(g *api.Grammar) { g.Names = append(g.Names, "C") },
		"a term in no rule":   func(g *api.Grammar) { g.Rules[2].Right = nil },
		"a left of a term":    func(g *api.Grammar) { g.Rules[4].Left = 0 },
		"a left below 0":      func(g *api.Grammar) { g.Rules[4].Left = -1 },
		"a left behind all":   func(g *api.Grammar) { g.Rules[4].Left = 4 },
		"a symbol below 0":    func(g *api.Grammar) { g.Rules[4].Right[0] = math.MinInt },
		"a symbol behind all": func(g *api.Grammar) { g.Rules[4].Right[0] = 4 },
		"a huge symbol":       func(g *api.Grammar) { g.Rules[4].Right[0] = 1 << 32 },
		"rules alike":         func(g *api.Grammar) { g.Rules[4] = g.Rules[0] },
		"names out of order":  func(g *api.Grammar) { g.Rules = append([]api.Rule{rule(3)}, g.Rules...) },
		"terms out of order":  func(g *api.Grammar) { g.Rules[0].Right[1] = 1 },
		"a long right side":   func(g *api.Grammar) { g.Rules[4].Right = slices.Repeat([]int{2}, api.MaxRight+1) },
		"a huge right side":   func(g *api.Grammar) { g.Rules[4].Right = slices.Repeat([]int{2}, 1<<22) },
		"many rules":          func(g *api.Grammar) { *g = manyRules(api.MaxRules + 1) },
		"many terms":          func(g *api.Grammar) { *g = wide(api.MaxTerms+1, api.MaxNames) },
		"many names":          func(g *api.Grammar) { *g = wide(api.MaxTerms, api.MaxNames+1) },
		"huge terms":          func(g *api.Grammar) { g.Terms = make([]string, 1<<22) },
		"huge names":          func(g *api.Grammar) { g.Names = make([]string, 1<<22) },
		"huge rules":          func(g *api.Grammar) { g.Rules = make([]api.Rule, 1<<22) },
	} {
		t.Run(what, func(t *testing.T) {
			g := ordinary()
			change(&g)
			wantNothing(t, g)
		})
	}
}

// eachGrammar hands on all grammars of those symbols and of up to most rules, with right sides of up to long symbols.
func eachGrammar(terms, names string, most, long int, do func(api.Grammar)) {
	g := grammarOf(terms, names)
	symbols := len(g.Terms) + len(g.Names)
	rights := [][]int{nil}
	for from := 0; len(rights[from]) < long; from++ {
		for sym := range symbols {
			rights = append(rights, append(slices.Clone(rights[from]), sym))
		}
	}
	var grow func()
	grow = func() {
		if grammar.Good(g) {
			do(g)
		}
		if len(g.Rules) == most {
			return
		}
		for left := len(g.Terms); left < symbols; left++ {
			for _, right := range rights {
				g.Rules = append(g.Rules, rule(left, right...))
				grow()
				g.Rules = g.Rules[:len(g.Rules)-1]
			}
		}
	}
	grow()
}

// byWords is what the chapter's words ask of a grammar without some occurrences, by going on from each nonterminal as far as its occurrences lead.
func byWords(g api.Grammar, without []api.Spot) (want answer) {
	terms := len(g.Terms)
	var left []api.Spot
	for i, r := range g.Rules {
		for dot, sym := range r.Right {
			if sym >= terms && !slices.Contains(without, at(i, dot)) {
				left = append(left, at(i, dot))
			}
		}
	}
	for name := range g.Names {
		row := make([]bool, len(g.Names))
		for way := []int{name}; len(way) > 0; way = way[1:] {
			for _, spot := range left {
				r := g.Rules[spot.Rule]
				if to := r.Right[spot.Dot] - terms; r.Left-terms == way[0] && !row[to] {
					row[to] = true
					way = append(way, to)
				}
			}
		}
		want.on = append(want.on, row)
	}
	for name := range g.Names {
		component := slices.IndexFunc(span(0, len(g.Names)), func(other int) bool {
			return other == name || want.on[name][other] && want.on[other][name]
		})
		want.components = append(want.components, component)
	}
	// The left side hangs on the nonterminal at hand: both hang on each other just if that leads back.
	for _, spot := range left {
		r := g.Rules[spot.Rule]
		if r.Left == r.Right[spot.Dot] || want.on[r.Right[spot.Dot]-terms][r.Left-terms] {
			want.inner = append(want.inner, spot)
		}
	}
	return want
}

// P10.1, P10.2: all small grammars, without each choice of their occurrences, held against the chapter's words.
func TestAllSmallGrammars(t *testing.T) {
	seen := 0
	check := func(g api.Grammar) {
		all := depend.Spots(g)
		for choice := range 1 << len(all) {
			seen++
			var without []api.Spot
			for i, spot := range all {
				if choice>>i%2 == 1 {
					without = append(without, spot)
				}
			}
			wantAnswer(t, g, without, byWords(g, without))
			slices.Reverse(without)
			wantAnswer(t, g, append(without, without...), byWords(g, without))
		}
	}
	eachGrammar("", "S", 3, 2, check)
	eachGrammar("a", "S", 3, 2, check)
	eachGrammar("", "S T", 3, 2, check)
	eachGrammar("a", "S T", 2, 3, check)
	eachGrammar("", "S T U", 4, 1, check)
	eachGrammar("a", "S T U", 3, 2, check)
	if seen < 50000 {
		t.Errorf("%d answers alone", seen)
	}
}

// mixed is a grammar of up to as many rules and symbols as there may be, made by a fixed reckoning from that number.
func mixed(t *testing.T, number uint32) api.Grammar {
	const names = "ABCDEFGHIJKLMNOPQRSTUVWXYZabcdefghijklmn"
	draw := func(below int) int {
		number = number*1664525 + 1013904223
		return int(number>>16) % below
	}
	kinds, most, quotes := 2+draw(api.MaxNames-1), 1+draw(5), 1+draw(90)
	var s strings.Builder
	for n := range api.MaxRules {
		s.WriteString(names[n%kinds : n%kinds+1])
		s.WriteString("=")
		for range draw(most + 1) {
			if draw(100) < quotes {
				s.WriteString("'" + names[draw(api.MaxTerms):][:1] + "'")
			} else {
				s.WriteString(" " + names[draw(kinds):][:1])
			}
		}
		s.WriteString(";")
	}
	return read(t, s.String())
}

// P10.1, P10.2: grammars of many rules, without some occurrences, held against the chapter's words.
func TestMixedGrammars(t *testing.T) {
	for number := range uint32(120) {
		g := mixed(t, number)
		all := depend.Spots(g)
		for part := range 12 {
			var without []api.Spot
			for i, spot := range all {
				if (i*7+int(number)*5)%11 < part {
					without = append(without, spot)
				}
			}
			wantAnswer(t, g, without, byWords(g, without))
		}
	}
	for _, g := range []api.Grammar{ordinary(), circle(), chain(), mesh(6), full(), wide(api.MaxTerms, api.MaxNames), manyRules(api.MaxRules)} {
		wantAnswer(t, g, nil, byWords(g, nil))
	}
}

func whole[T any](l []T) []T { return l[:cap(l)] }

// withRoom is l in a list that has spare room, which is filled.
func withRoom[T any](l []T, spare T) []T {
	return append(slices.Clone(l), spare, spare)[:len(l)]
}

// grammarWithRoom is g in lists that have spare room, which is filled.
func grammarWithRoom(g api.Grammar) api.Grammar {
	g.Terms = withRoom(g.Terms, "spare")
	g.Names = withRoom(g.Names, "spare")
	g.Rules = withRoom(g.Rules, rule(9, 9))
	for i, r := range g.Rules {
		g.Rules[i].Right = withRoom(r.Right, 9)
	}
	return g
}

// roomOf is all that g's lists have, spare room included.
func roomOf(g api.Grammar) string {
	s := fmt.Sprintf("%q %q %v", whole(g.Terms), whole(g.Names), whole(g.Rules))
	for _, r := range g.Rules {
		s += fmt.Sprint(whole(r.Right))
	}
	return s
}

// Rule 2 of the document: what is handed in is not changed, its spare room included.
func TestArgumentsAreNotChanged(t *testing.T) {
	wrong := ordinary()
	wrong.Rules[4].Right[0] = 7
	for _, x := range []api.Grammar{ordinary(), wrong, circle(), chain(), full()} {
		g := grammarWithRoom(x)
		without := withRoom(spots(2, 0, 0, 0, 0, 0, -1, 7, 1, 0), at(3, 0))
		before := roomOf(g) + fmt.Sprint(whole(without))
		depend.Spots(g)
		ask(g, without)
		if after := roomOf(g) + fmt.Sprint(whole(without)); after != before {
			t.Errorf("%s was changed to %s", before, after)
		}
	}
	// What stands in spare room is not left out.
	g := read(t, "S = A 'x' S ; A = B ; B = S A | 'b' ;")
	wantAnswer(t, g, withRoom(spots(2, 0), at(2, 1)), ask(g, spots(2, 0)))
}

// spoil writes over all that a list has, spare room included.
func spoil[T any](l []T, x T) {
	for i := range whole(l) {
		whole(l)[i] = x
	}
}

// Rule 2 of the document: what is told is new memory: no two lists of one answer, no two answers, and no answer and an argument share any.
func TestAnswersAreNew(t *testing.T) {
	for _, g := range []api.Grammar{ordinary(), circle(), full(), read(t, "S = A 'b' S ; A = S | ;")} {
		all := depend.Spots(g)
		for _, without := range [][]api.Spot{nil, slices.Clone(all[:1]), slices.Clone(all)} {
			kept := ask(g, without)
			want := byWords(g, without)
			for n := range kept.on {
				on := depend.On(g, without)
				spoil(on[n], !want.on[n][0])
				on[n] = append(on[n], true)
				on[n] = want.on[n]
				if !slices.EqualFunc(on, want.on, slices.Equal[[]bool]) {
					t.Errorf("%s: list %d shares memory with others of its answer", short(g), n)
				}
			}
			other := ask(g, without)
			spoil(other.on, nil)
			spoil(other.components, -7)
			spoil(other.inner, at(-7, -7))
			spoil(depend.Spots(g), at(-7, -7))
			if !kept.equal(want) {
				t.Errorf("%s: one list was handed out twice", short(g))
			}
			wantAnswer(t, g, without, want)
			spoil(without, at(-7, -7))
			if !kept.equal(want) {
				t.Errorf("%s: an answer shares memory with an argument", short(g))
			}
		}
		wantSpots(t, g, all)
	}
}

// Rules 2 and 4 of the document: nil and empty lists are one, and neither what was told before nor what stands in spare room is to be seen in an answer.
func TestAnswersHangOnArgumentsAlone(t *testing.T) {
	empty := api.Grammar{Terms: []string{}, Names: []string{"S"}, Rules: []api.Rule{{Right: []int{}}}}
	for range 200 {
		wantSpots(t, empty, nil)
		wantAnswer(t, empty, nil, answer{[][]bool{{false}}, []int{0}, nil})
		wantAnswer(t, empty, []api.Spot{}, answer{[][]bool{{false}}, []int{0}, nil})
		wantAnswer(t, ordinary(), []api.Spot{}, byWords(ordinary(), nil))
		wantNothing(t, api.Grammar{})
		wantAnswer(t, grammarWithRoom(ordinary()), nil, byWords(ordinary(), nil))
		wantNames(t, "S = S ;", nil, spots(0, 0), "S", "S")
		wantNames(t, "S = S ;", spots(0, 0), nil, "S", "")
		wantNames(t, "S = A ; A = S ;", nil, spots(0, 0, 1, 0), "S S", "S A", "S A")
		wantNames(t, "S = A ; A = 'a' ;", nil, nil, "S A", "A", "")
	}
}

// Rule 5 of the document: what goroutines a call begins are over when it ends.
func TestGoroutinesAreOver(t *testing.T) {
	before := runtime.NumGoroutine()
	for range 200 {
		for _, g := range []api.Grammar{ordinary(), circle(), full(), {}} {
			depend.Spots(g)
			ask(g, spots(0, 0, 1, 0, -1, 0))
		}
	}
	// A goroutine that is over may be counted for a moment.
	for wait := 0; runtime.NumGoroutine() > before && wait < 1000; wait++ {
		time.Sleep(time.Millisecond)
	}
	if after := runtime.NumGoroutine(); after > before {
		t.Errorf("%d goroutines go on", after-before)
	}
}
