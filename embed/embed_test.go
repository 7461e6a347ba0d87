package embed_test

import (
	"fmt"
	"math"
	"runtime"
	"slices"
	"strings"
	"testing"
	"time"

	"topiarist/api"
	"topiarist/depend"
	"topiarist/embed"
	"topiarist/grammar"
)

func rule(left int, right ...int) api.Rule { return api.Rule{Left: left, Right: right} }

// grammarOf is a grammar whose terms, and names, are parted by blanks.
func grammarOf(terms, names string, rules ...api.Rule) api.Grammar {
	return api.Grammar{Terms: strings.Fields(terms), Names: strings.Fields(names), Rules: rules}
}

// ordinary is a grammar that may be: A = B 'x' | ; B = 'y' 'x' | A ; A = 'x' ;
func ordinary() api.Grammar {
	return grammarOf("x y", "A B", rule(2, 3, 0), rule(2), rule(3, 1, 0), rule(3, 2), rule(2, 0))
}

// read is the grammar that s is the text of.
func read(t *testing.T, s string) api.Grammar {
	t.Helper()
	g, f := grammar.Of(s)
	if f != (api.Fault{}) {
		t.Fatalf("Of(%q): %v", s, f)
	}
	return g
}

// short is x for a message, cut where x is huge.
func short(x any) string {
	const most = 300
	s := fmt.Sprintf("%v", x)
	if len(s) > most {
		s = s[:most] + " .."
	}
	return s
}

func at(rule, dot int) api.Spot { return api.Spot{Rule: rule, Dot: dot} }

// spots is the list of places that are told as rule and dot by turns.
func spots(numbers ...int) []api.Spot {
	var l []api.Spot
	for i := 0; i < len(numbers); i += 2 {
		l = append(l, at(numbers[i], numbers[i+1]))
	}
	return l
}

// answer is what embed tells of a grammar without some occurrences.
type answer struct{ left, right, both []bool }

func ask(g api.Grammar, without []api.Spot) answer {
	return answer{embed.Left(g, without), embed.Right(g, without), embed.Both(g, without)}
}

func (a answer) equal(b answer) bool {
	return slices.Equal(a.left, b.left) && slices.Equal(a.right, b.right) && slices.Equal(a.both, b.both)
}

// wantAnswer: that is told of the grammar without those occurrences.
func wantAnswer(t *testing.T, g api.Grammar, without []api.Spot, want answer) {
	t.Helper()
	if got := ask(g, without); !got.equal(want) {
		t.Errorf("%s without %s: %s; want %s", short(g), short(without), short(got), short(want))
	}
}

// among tells of each nonterminal whether it is among those names.
func among(g api.Grammar, names string) []bool {
	is := make([]bool, len(g.Names))
	for name, text := range g.Names {
		is[name] = slices.Contains(strings.Fields(names), text)
	}
	return is
}

// wantNames: of the grammar that s is the text of, without those occurrences, those nonterminals have themselves to the left, to the right, by one way to both.
func wantNames(t *testing.T, s string, without []api.Spot, left, right, both string) {
	t.Helper()
	g := read(t, s)
	wantAnswer(t, g, without, answer{among(g, left), among(g, right), among(g, both)})
}

// P11.1, P11.2: the chapter's example: S = '(' S ')' | ; : to both.
func TestExample(t *testing.T) {
	wantNames(t, "S = '(' S ')' | ;", nil, "S", "S", "S")
	wantNames(t, "S = '(' S ')' | ;", spots(0, 1), "", "", "")
}

// P11.1: a nonterminal that has itself by one step.
func TestOneStep(t *testing.T) {
	wantNames(t, "S = 'a' S | ;", nil, "S", "", "")
	wantNames(t, "S = S 'a' | ;", nil, "", "S", "")
	wantNames(t, "S = 'a' S 'b' ;", nil, "S", "S", "S")
	wantNames(t, "S = S ;", nil, "", "", "")
	wantNames(t, "S = S | 'a' ;", nil, "", "", "")
	wantNames(t, "S = 'a' | ;", nil, "", "", "")
	// What stands to a side may be more than one symbol.
	wantNames(t, "S = 'a' 'b' 'c' 'd' 'e' 'f' 'g' S ;", nil, "S", "", "")
	wantNames(t, "S = S 'a' 'b' 'c' 'd' 'e' 'f' 'g' ;", nil, "", "S", "")
	wantNames(t, "S = 'a' 'b' 'c' 'd' 'e' 'f' S 'g' ;", nil, "S", "S", "S")
}

// P11.1: a nonterminal that has itself by several steps, of which but one puts something to a side.
func TestSeveralSteps(t *testing.T) {
	wantNames(t, "S = A ; A = B ; B = S ;", nil, "", "", "")
	wantNames(t, "S = 'x' A ; A = B ; B = S ;", nil, "S A B", "", "")
	wantNames(t, "S = A ; A = 'x' B ; B = S ;", nil, "S A B", "", "")
	wantNames(t, "S = A ; A = B ; B = 'x' S ;", nil, "S A B", "", "")
	wantNames(t, "S = A 'x' ; A = B ; B = S ;", nil, "", "S A B", "")
	wantNames(t, "S = A ; A = B 'x' ; B = S ;", nil, "", "S A B", "")
	wantNames(t, "S = A ; A = B ; B = S 'x' ;", nil, "", "S A B", "")
	wantNames(t, "S = A ; A = 'x' B 'x' ; B = S ;", nil, "S A B", "S A B", "S A B")
	wantNames(t, "S = 'x' A ; A = 'x' B ; B = 'x' S ;", nil, "S A B", "", "")
}

// P11.1, P11.2: circles in which one step puts something to the left, and another one something to the right.
func TestSidesOfSeveralSteps(t *testing.T) {
	wantNames(t, "S = 'x' A ; A = S 'y' ;", nil, "S A", "S A", "S A")
	wantNames(t, "S = A 'x' ; A = 'y' S ;", nil, "S A", "S A", "S A")
	wantNames(t, "S = 'x' A ; A = B ; B = S 'y' ;", nil, "S A B", "S A B", "S A B")
	wantNames(t, "S = A ; A = B 'y' ; B = 'x' S | 'b' ;", nil, "S A B", "S A B", "S A B")
	wantNames(t, "E = T | E '+' T ; T = F | T '*' F ; F = '(' E ')' | 'x' ;", nil, "E T F", "E T F", "E T F")
	// Without the brackets T has itself no more by E, but each has itself to the right.
	wantNames(t, "E = T | E '+' T ; T = F | T '*' F ; F = '(' E ')' | 'x' ;", spots(4, 1), "", "E T", "")
}

// P11.1, P11.2: to the left by one way and to the right by another one: both ways one behind the other are one way, to both.
func TestTwoWays(t *testing.T) {
	wantNames(t, "S = S 'a' | 'b' S | ;", nil, "S", "S", "S")
	wantNames(t, "S = 'b' S | S 'a' | ;", nil, "S", "S", "S")
	wantNames(t, "S = 'x' A | B 'y' | ; A = S ; B = S ;", nil, "S A B", "S A B", "S A B")
	wantNames(t, "S = A | B ; A = 'x' S ; B = S 'y' | ;", nil, "S A B", "S A B", "S A B")
	// Each of the ways that is left is to one side alone.
	wantNames(t, "S = S 'a' | 'b' S | ;", spots(0, 0), "S", "", "")
	wantNames(t, "S = S 'a' | 'b' S | ;", spots(1, 1), "", "S", "")
	wantNames(t, "S = 'x' A | B 'y' | ; A = S ; B = S ;", spots(0, 1), "", "S B", "")
	wantNames(t, "S = 'x' A | B 'y' | ; A = S ; B = S ;", spots(4, 0), "S A", "", "")
	// A longer way to both beside shorter ways to one side and to none.
	wantNames(t, "S = S | A | 'x' S ; A = B ; B = S 'y' ;", nil, "S A B", "S A B", "S A B")
	wantNames(t, "S = S | A ; A = A 'x' | B ; B = B | 'y' C ; C = S ;", nil, "S A B C", "S A B C", "S A B C")
}

// P11.1: what stands to a side counts on a way back alone, not on a way to what leads nowhere back.
func TestWaysThatDoNotLeadBack(t *testing.T) {
	wantNames(t, "S = 'x' T 'y' ; T = T | ;", nil, "", "", "")
	wantNames(t, "S = 'x' A | ; A = 'x' B 'y' ; B = B | 'b' ;", nil, "", "", "")
	wantNames(t, "S = T T ; T = 'a' ;", nil, "", "", "")
	// One that leads into a circle, and is in none itself.
	wantNames(t, "S = 'x' A 'y' ; A = 'x' B ; B = A ;", nil, "A B", "", "")
	wantNames(t, "S = A ; A = '(' A ')' | ;", nil, "A", "A", "A")
	wantNames(t, "Z = 'z' Y 'z' ; Y = 'y' S 'y' ; S = S 'a' | ;", nil, "", "S", "")
	// One that a circle leads to.
	wantNames(t, "S = 'x' S | 'x' A 'y' ; A = 'a' ;", nil, "S", "", "")
	// Two circles of which one leads into the other, with something to the other side.
	wantNames(t, "S = 'x' S | S 'y' ; A = A 'x' | 'y' S 'x' ;", nil, "S", "S A", "S")
	wantNames(t, "A = 'x' A | S 'y' ; S = S 'y' | ;", nil, "A", "S", "")
	wantNames(t, "A = B ; B = A | 'x' C 'y' ; C = D ; D = C 'y' | 'x' ;", nil, "", "C D", "")
	wantNames(t, "S = 'x' T | ; T = S | U ; U = U 'u' ;", nil, "S T", "U", "")
}

// P11.1: occurrences of one circle that is gone round several ways: each nonterminal of it has what any of the ways puts.
func TestCirclesThatHaveOneInCommon(t *testing.T) {
	wantNames(t, "S = 'x' A | B ; A = S ; B = C ; C = S | 'c' ;", nil, "S A B C", "", "")
	wantNames(t, "S = 'x' A | B ; A = S ; B = C ; C = S 'c' ;", nil, "S A B C", "S A B C", "S A B C")
	// Off the ways of a common one: the circles are apart where it is left out.
	wantNames(t, "S = A | B ; A = S | 'x' A ; B = S | B 'y' ;", nil, "S A B", "S A B", "S A B")
	wantNames(t, "S = A | B ; A = S | 'x' A ; B = S | B 'y' ;", spots(0, 0), "A", "S B", "")
	wantNames(t, "S = A | B ; A = S | 'x' A ; B = S | B 'y' ;", spots(0, 0, 1, 0), "A", "B", "")
	wantNames(t, "S = A | B ; A = S | 'x' A ; B = S | B 'y' ;", spots(0, 0, 1, 0, 3, 1), "", "B", "")
}

// P11.1: an occurrence that is the first of its right side, the last, or both.
func TestFirstAndLast(t *testing.T) {
	wantNames(t, "S = A | ; A = S 'y' ;", nil, "", "S A", "")
	wantNames(t, "S = A | ; A = 'y' S ;", nil, "S A", "", "")
	wantNames(t, "S = A | ; A = S ;", nil, "", "", "")
	wantNames(t, "S = A | ; A = 'x' S 'y' ;", nil, "S A", "S A", "S A")
	// What is nothing stands to a side as what is not.
	wantNames(t, "S = N S ; N = ;", nil, "S", "", "")
	wantNames(t, "S = S N ; N = ;", nil, "", "S", "")
	wantNames(t, "S = N S N ; N = ;", nil, "S", "S", "S")
	// So does what is left out.
	wantNames(t, "S = N S ; N = 'n' ;", spots(0, 0), "S", "", "")
	wantNames(t, "S = S N ; N = 'n' ;", spots(0, 1), "", "S", "")
	// In the longest right side.
	wantNames(t, "S = S N N N N N N N ; N = ;", nil, "", "S", "")
	wantNames(t, "S = N N N N N N N S ; N = ;", nil, "S", "", "")
	wantNames(t, "S = N N N N N N S N ; N = ;", nil, "S", "S", "S")
	wantNames(t, "S = N S N N N N N N ; N = ;", nil, "S", "S", "S")
}

// P11.1: a nonterminal that stands twice in one right side is two occurrences, each of which stands to a side of the other.
func TestTwiceInARightSide(t *testing.T) {
	wantNames(t, "S = S S | ;", nil, "S", "S", "S")
	wantNames(t, "S = S S | ;", spots(0, 0), "S", "", "")
	wantNames(t, "S = S S | ;", spots(0, 1), "", "S", "")
	wantNames(t, "S = S S | ;", spots(0, 1, 0, 0), "", "", "")
	wantNames(t, "S = S S S | ;", spots(0, 1), "S", "S", "S")
	wantNames(t, "S = S S S | ;", spots(0, 0, 0, 2), "S", "S", "S")
	wantNames(t, "S = S S S | ;", spots(0, 0, 0, 1), "S", "", "")
	wantNames(t, "S = S S S | ;", spots(0, 2, 0, 1), "", "S", "")
	const text = "S = A 'x' A ; A = S | 'a' ;"
	wantNames(t, text, nil, "S A", "S A", "S A")
	wantNames(t, text, spots(0, 0), "S A", "", "")
	wantNames(t, text, spots(0, 2), "", "S A", "")
	wantNames(t, text, spots(1, 0), "", "", "")
	// In two rules of one left side, too.
	wantNames(t, "S = A | 'b' A ; A = S ;", nil, "S A", "", "")
	wantNames(t, "S = A | 'b' A ; A = S ;", spots(0, 0), "S A", "", "")
	wantNames(t, "S = A | 'b' A ; A = S ;", spots(1, 1), "", "", "")
}

// P11.1: occurrences that are left out: one, several, all; one that cuts the only way, and one that does not.
func TestWithout(t *testing.T) {
	const text = "S = 'x' A ; A = B 'y' ; B = S | 'b' ;"
	wantNames(t, text, nil, "S A B", "S A B", "S A B")
	wantNames(t, text, spots(0, 1), "", "", "")
	wantNames(t, text, spots(1, 0), "", "", "")
	wantNames(t, text, spots(2, 0), "", "", "")
	wantNames(t, text, spots(0, 1, 1, 0), "", "", "")
	wantNames(t, text, spots(0, 1, 1, 0, 2, 0), "", "", "")
	const two = "S = A 'x' S ; A = B ; B = S A | 'b' ;"
	wantNames(t, two, nil, "S A B", "S A B", "S A B")
	wantNames(t, two, spots(2, 0), "S A B", "", "")
	wantNames(t, two, spots(2, 1), "S A B", "S A B", "S A B")
	wantNames(t, two, spots(0, 2), "S A B", "S A B", "S A B")
	wantNames(t, two, spots(0, 2, 2, 1), "", "S A B", "")
	wantNames(t, two, spots(0, 0), "S A B", "", "")
	wantNames(t, two, spots(1, 0), "S", "", "")
	wantNames(t, two, spots(1, 0, 0, 2), "", "", "")
	wantNames(t, two, spots(0, 0, 0, 2, 1, 0, 2, 0, 2, 1), "", "", "")
	// What is left out puts nothing to a side, though the ways that are left go round.
	wantNames(t, "S = S | 'a' S | S 'b' ;", spots(1, 1, 2, 0), "", "", "")
}

// P11.1: the order in which occurrences are left out, and how often each is named, is nothing.
func TestWithoutInAnyOrder(t *testing.T) {
	g := read(t, "S = A 'x' S ; A = B ; B = S A | 'b' ; C = 'c' C 'c' ;")
	want := answer{among(g, "A B"), among(g, ""), among(g, "")}
	for _, without := range [][]api.Spot{
		spots(4, 1, 2, 0, 0, 2), spots(2, 0, 0, 2, 4, 1), spots(0, 2, 4, 1, 2, 0), spots(0, 2, 0, 2, 2, 0, 4, 1, 2, 0),
		slices.Repeat(spots(4, 1, 0, 2, 2, 0), 1000),
	} {
		wantAnswer(t, g, without, want)
	}
	want = answer{among(g, "S A B"), among(g, ""), among(g, "")}
	wantAnswer(t, g, spots(2, 0, 4, 1, 2, 0), want)
	wantAnswer(t, g, spots(4, 1, 2, 0), want)
}

// noise is Spots that are no occurrences of a grammar: of rules that there are not, of places below 0 and behind the right side, of terminals' places.
func noise(g api.Grammar) []api.Spot {
	var l []api.Spot
	for _, wrong := range []int{-1, -2, math.MinInt, math.MinInt + 1, len(g.Rules), len(g.Rules) + 1, 1 << 31, 1 << 32, -1 << 32, math.MaxInt} {
		l = append(l, at(wrong, 0), at(wrong, 1), at(wrong, wrong))
	}
	for i, r := range g.Rules {
		for _, wrong := range []int{-1, -2, math.MinInt, len(r.Right), len(r.Right) + 1, 1 << 31, 1 << 32, 1<<32 + 1, -1 << 32, math.MaxInt} {
			l = append(l, at(i, wrong))
		}
		for dot, sym := range r.Right {
			if sym < len(g.Terms) {
				l = append(l, at(i, dot))
			}
		}
	}
	return l
}

// P11.1: Spots that are no occurrences count for nothing, by themselves and among others.
func TestSpotsThatAreNoOccurrences(t *testing.T) {
	for _, g := range []api.Grammar{circle(), chain(), full()} {
		wantAnswer(t, g, noise(g), ask(g, nil))
		wantAnswer(t, g, append(noise(g), at(7, 0)), ask(g, spots(7, 0)))
	}
	for _, g := range []api.Grammar{ordinary(), read(t, "S = A 'x' S ; A = B ; B = S A | 'b' ;"), read(t, "S = '(' S ')' | 'a' S | ;")} {
		l := noise(g)
		want := ask(g, nil)
		wantAnswer(t, g, l, want)
		for _, wrong := range l {
			wantAnswer(t, g, []api.Spot{wrong}, want)
		}
		for _, out := range depend.Spots(g) {
			want := ask(g, []api.Spot{out})
			wantAnswer(t, g, append(slices.Clone(l), out), want)
			wantAnswer(t, g, append([]api.Spot{out}, l...), want)
		}
	}
	wantNames(t, "S = '(' S ')' | ;", spots(0, 0, 0, 2, 1, 0, 0, 3, -1, 1, 2, 1), "S", "S", "S")
	// Neither counts what stands in the right sides' spare room.
	g := grammarWithRoom(read(t, "S = 'a' S | A ; A = S 'b' | 'a' A | ;"))
	wantAnswer(t, g, spots(2, 0), answer{among(g, "S A"), among(g, ""), among(g, "")})
	wantAnswer(t, g, spots(1, 0), answer{among(g, "S A"), among(g, ""), among(g, "")})
	wantAnswer(t, g, spots(0, 1, 3, 1), answer{among(g, ""), among(g, "S A"), among(g, "")})
}

// P11.1: a list of Spots of any size.
func TestManySpotsWithout(t *testing.T) {
	g := read(t, "S = A 'x' S ; A = B ; B = S A | 'b' ;")
	many := slices.Repeat(append(noise(g), spots(2, 0)...), 1<<14)
	wantAnswer(t, g, many, ask(g, spots(2, 0)))
	wantAnswer(t, full(), make([]api.Spot, 1<<22), ask(full(), spots(0, 0)))
	wantAnswer(t, api.Grammar{}, make([]api.Spot, 1<<22), answer{})
}

// P11.1: in the order of Names, not by which rules stand first, nor by the text.
func TestOrder(t *testing.T) {
	wantNames(t, "Z = 'z' ; Y = 'y' A ; A = Y ; B = B 'b' ;", nil, "Y A", "B", "")
	g := read(t, "Z = 'z' ; Y = 'y' A ; A = Y ; B = B 'b' ;")
	wantAnswer(t, g, nil, answer{[]bool{false, true, true, false}, []bool{false, false, false, true}, make([]bool, 4)})
	g = read(t, "B = B 'b' ; A = Y ; Z = 'z' ; Y = 'y' A ;")
	if want := []bool{false, true, false, true}; !slices.Equal(embed.Left(g, nil), want) {
		t.Errorf("Left(%v) = %v; want %v", g, embed.Left(g, nil), want)
	}
	// Rules of one left side stand apart where others stand between.
	wantNames(t, "S = A ; A = 'a' ; S = 'b' S ; A = A 'a' | S ;", nil, "S A", "S A", "S A")
}

// P11.1: nonterminals that the start does not reach count as they stand, and so do those that derive nothing.
func TestNonterminalsThatAreNotReached(t *testing.T) {
	wantNames(t, "S = 'x' ; C = 'x' D ; D = C 'y' ; E = 'x' C | E 'e' ;", nil, "C D", "C D E", "C D")
	wantNames(t, "S = 'x' ; C = 'a' S C ;", nil, "C", "", "")
	wantNames(t, "S = N ; N = N 'a' N ;", nil, "N", "N", "N")
	wantNames(t, "S = 'x' ; N = M ; M = M N ;", nil, "N M", "N M", "N M")
	wantNames(t, "S = 'x' ; N = M ; M = M N ;", spots(2, 1), "", "M", "")
}

// P11.1: rules that are nothing, and terminals that have a nonterminal's text, lead nowhere.
func TestTerminalsLeadNowhere(t *testing.T) {
	wantNames(t, "S = 'a' 'S' 'A' | ; A = 'S' 'A' | ;", nil, "", "", "")
	wantNames(t, "S = 'a' A 'a' ; A = 'x' 'S' 'x' | ;", nil, "", "", "")
}

// wide is a grammar of so many terminals and nonterminals, each of which stands where it must.
func wide(terms, names int) api.Grammar {
	var g api.Grammar
	for sym := range terms {
		g.Terms = append(g.Terms, fmt.Sprint("t", sym))
	}
	for n := range names {
		g.Names = append(g.Names, fmt.Sprint("n", n))
		g.Rules = append(g.Rules, rule(terms+n))
	}
	for sym := range terms {
		r := &g.Rules[sym/api.MaxRight]
		r.Right = append(r.Right, sym)
	}
	return g
}

// wantGood: g may be.
func wantGood(t *testing.T, g api.Grammar) {
	t.Helper()
	if !grammar.Good(g) {
		t.Fatalf("%s may not be", short(g))
	}
}

// mesh is a grammar of as many nonterminals, terminals and rules as there may be, in which each nonterminal hangs on the one that comes so far behind it, round and round.
func mesh(step int) api.Grammar {
	const terms, names = api.MaxTerms, api.MaxNames
	g := wide(terms, names)
	for n := range g.Rules {
		g.Rules[n].Right = []int{terms + (n+step)%names}
	}
	for sym := 0; len(g.Rules) < api.MaxRules; sym += 2 {
		g.Rules = append(g.Rules, rule(terms, sym, sym+1))
	}
	return g
}

func circle() api.Grammar { return mesh(1) }

// chain is a circle whose last nonterminal is nothing.
func chain() api.Grammar {
	g := circle()
	g.Rules[api.MaxNames-1].Right = nil
	return g
}

// full is a grammar of as many nonterminals, rules and occurrences as there may be, in which all hang on all.
func full() api.Grammar {
	var g api.Grammar
	for n := range api.MaxNames {
		g.Names = append(g.Names, fmt.Sprint("n", n))
	}
	for i := range api.MaxRules {
		r := rule(i % api.MaxNames)
		for dot := range api.MaxRight {
			r.Right = append(r.Right, (i+1+dot*(1+i/api.MaxNames))%api.MaxNames)
		}
		g.Rules = append(g.Rules, r)
	}
	return g
}

// filled is so many times the same.
func filled[T any](many int, x T) []T { return slices.Repeat([]T{x}, many) }

// wantAlike: the same is told of all nonterminals of a grammar.
func wantAlike(t *testing.T, g api.Grammar, without []api.Spot, left, right, both bool) {
	t.Helper()
	names := len(g.Names)
	wantAnswer(t, g, without, answer{filled(names, left), filled(names, right), filled(names, both)})
}

// ring is a circle of as many nonterminals as there may be, of which one puts something to the left, and one something to the right; a number that is none's puts nothing.
func ring(t *testing.T, left, right int) api.Grammar {
	var s strings.Builder
	for n := range api.MaxNames {
		fmt.Fprintf(&s, "n%d = ", n)
		if n == left {
			s.WriteString("'l' ")
		}
		fmt.Fprintf(&s, "n%d", (n+1)%api.MaxNames)
		if n == right {
			s.WriteString(" 'r'")
		}
		s.WriteString(" ; ")
	}
	return read(t, s.String())
}

// P11.1, P11.2: as many nonterminals as there may be in one circle, in which one step or two put something to a side, cut or not.
func TestGreatCircles(t *testing.T) {
	const names, none = api.MaxNames, -1
	wantAlike(t, ring(t, none, none), nil, false, false, false)
	for n := range names {
		wantAlike(t, ring(t, n, none), nil, true, false, false)
		wantAlike(t, ring(t, none, n), nil, false, true, false)
		wantAlike(t, ring(t, n, n), nil, true, true, true)
		wantAlike(t, ring(t, n, (n*7+3)%names), nil, true, true, true)
		wantAlike(t, ring(t, 0, names-1), spots(n, 0, n, 1), false, false, false)
	}
	for step := range names {
		wantGood(t, mesh(step))
		wantAlike(t, mesh(step), nil, false, false, false)
	}
	wantGood(t, chain())
	wantAlike(t, chain(), nil, false, false, false)
}

// P11.1, P11.2: as many rules, symbols and occurrences as there may be, with none left out, with all but a circle, with all.
func TestManyOccurrences(t *testing.T) {
	const names = api.MaxNames
	g := full()
	wantGood(t, g)
	wantAlike(t, g, nil, true, true, true)
	all := depend.Spots(g)
	if len(all) != api.MaxRules*api.MaxRight {
		t.Fatalf("%d occurrences", len(all))
	}
	wantAlike(t, g, all, false, false, false)
	for dot := range api.MaxRight {
		// The first rules' places of that number lead round by so many steps.
		var others []api.Spot
		for _, spot := range all {
			if spot.Dot != dot || spot.Rule >= names {
				others = append(others, spot)
			}
		}
		left, right := dot > 0, dot < api.MaxRight-1
		wantAlike(t, g, others, left, right, left && right)
		slices.Reverse(others)
		wantAlike(t, g, others, left, right, left && right)
	}
	wantGood(t, wide(api.MaxTerms, names))
	wantAlike(t, wide(api.MaxTerms, names), nil, false, false, false)
	// Of rules of one nonterminal alone.
	many := manyRules(api.MaxRules)
	wantAlike(t, many, nil, true, true, true)
	wantAlike(t, many, depend.Spots(many), false, false, false)
	for _, side := range []struct {
		left, right bool
		isOut       func(spot api.Spot, long int) bool
	}{
		{true, false, func(spot api.Spot, long int) bool { return spot.Dot < long-1 }},
		{false, true, func(spot api.Spot, long int) bool { return spot.Dot > 0 }},
		{false, false, func(spot api.Spot, long int) bool { return long > 1 }},
	} {
		var without []api.Spot
		for _, spot := range depend.Spots(many) {
			if side.isOut(spot, len(many.Rules[spot.Rule].Right)) {
				without = append(without, spot)
			}
		}
		wantAlike(t, many, without, side.left, side.right, false)
	}
}

// wantNothing: g may not be, so that nothing is told of it.
func wantNothing(t *testing.T, g api.Grammar) {
	t.Helper()
	for _, without := range [][]api.Spot{nil, spots(0, 0), spots(0, 1, 2, 0, -1, 7), spots(1<<32, 1<<32, 4, 0)} {
		wantAnswer(t, g, without, answer{})
	}
}

// manyRules is a grammar of one nonterminal, one terminal and so many rules, no two of which are alike.
func manyRules(n int) api.Grammar {
	g := grammarOf("a", "S", rule(1))
	for i := 1; i < n; i++ {
		var right []int
		for rest := i; rest > 0; rest /= 2 {
			right = append(right, rest%2)
		}
		g.Rules = append(g.Rules, rule(1, right...))
	}
	return g
}

// P11.1: grammars that may not be, for each cause that chapter 3 names.
func TestGrammarsThatMayNotBe(t *testing.T) {
	long := strings.Repeat("n", api.MaxName+1)
	for what, change := range map[string]func(g *api.Grammar){
		"nothing":             func(g *api.Grammar) { *g = api.Grammar{} },
		"no rules":            func(g *api.Grammar) { g.Rules = nil },
		"no names":            func(g *api.Grammar) { g.Names = nil },
		"no terms":            func(g *api.Grammar) { g.Terms = nil },
		"no name":             func(g *api.Grammar) { g.Names[1] = "9" },
		"an empty name":       func(g *api.Grammar) { g.Names[1] = "" },
		"a long name":         func(g *api.Grammar) { g.Names[1] = long },
		"names alike":         func(g *api.Grammar) { g.Names[1] = g.Names[0] },
		"a quote in a term":   func(g *api.Grammar) { g.Terms[1] = "'" },
		"a newline in a term": func(g *api.Grammar) { g.Terms[1] = "\n" },
		"an empty term":       func(g *api.Grammar) { g.Terms[1] = "" },
		"a long term":         func(g *api.Grammar) { g.Terms[1] = long },
		"terms alike":         func(g *api.Grammar) { g.Terms[1] = g.Terms[0] },
		"a name without rule": func(g *api.Grammar) { g.Names = append(g.Names, "C") },
		"a term in no rule":   func(g *api.Grammar) { g.Rules[2].Right = nil },
		"a left of a term":    func(g *api.Grammar) { g.Rules[4].Left = 0 },
		"a left below 0":      func(g *api.Grammar) { g.Rules[4].Left = -1 },
		"a left behind all":   func(g *api.Grammar) { g.Rules[4].Left = 4 },
		"a symbol below 0":    func(g *api.Grammar) { g.Rules[4].Right[0] = math.MinInt },
		"a symbol behind all": func(g *api.Grammar) { g.Rules[4].Right[0] = 4 },
		"a huge symbol":       func(g *api.Grammar) { g.Rules[4].Right[0] = 1 << 32 },
		"rules alike":         func(g *api.Grammar) { g.Rules[4] = g.Rules[0] },
		"names out of order":  func(g *api.Grammar) { g.Rules = append([]api.Rule{rule(3)}, g.Rules...) },
		"terms out of order":  func(g *api.Grammar) { g.Rules[0].Right[1] = 1 },
		"a long right side":   func(g *api.Grammar) { g.Rules[4].Right = slices.Repeat([]int{2}, api.MaxRight+1) },
		"a huge right side":   func(g *api.Grammar) { g.Rules[4].Right = slices.Repeat([]int{2}, 1<<22) },
		"many rules":          func(g *api.Grammar) { *g = manyRules(api.MaxRules + 1) },
		"many terms":          func(g *api.Grammar) { *g = wide(api.MaxTerms+1, api.MaxNames) },
		"many names":          func(g *api.Grammar) { *g = wide(api.MaxTerms, api.MaxNames+1) },
		"huge terms":          func(g *api.Grammar) { g.Terms = make([]string, 1<<22) },
		"huge names":          func(g *api.Grammar) { g.Names = make([]string, 1<<22) },
		"huge rules":          func(g *api.Grammar) { g.Rules = make([]api.Rule, 1<<22) },
	} {
		t.Run(what, func(t *testing.T) {
			g := ordinary()
			change(&g)
			wantNothing(t, g)
		})
	}
}

// eachGrammar hands on all grammars of those symbols and of up to most rules, with right sides of up to long symbols.
func eachGrammar(terms, names string, most, long int, do func(api.Grammar)) {
	g := grammarOf(terms, names)
	symbols := len(g.Terms) + len(g.Names)
	rights := [][]int{nil}
	for from := 0; len(rights[from]) < long; from++ {
		for sym := range symbols {
			rights = append(rights, append(slices.Clone(rights[from]), sym))
		}
	}
	var grow func()
	grow = func() {
		if grammar.Good(g) {
			do(g)
		}
		if len(g.Rules) == most {
			return
		}
		for left := len(g.Terms); left < symbols; left++ {
			for _, right := range rights {
				g.Rules = append(g.Rules, rule(left, right...))
				grow()
				g.Rules = g.Rules[:len(g.Rules)-1]
			}
		}
	}
	grow()
}

// byWords is what the chapter's words ask of a grammar without some occurrences: from each nonterminal all ways are gone, and of each is kept where it has come to and what stood beside the occurrences that it went on with.
func byWords(g api.Grammar, without []api.Spot) (want answer) {
	type place struct {
		sym         int
		left, right bool
	}
	for n := range g.Names {
		self := len(g.Terms) + n
		var come []place
		goOn := func(from place) {
			for i, r := range g.Rules {
				for dot, sym := range r.Right {
					if r.Left != from.sym || sym < len(g.Terms) || slices.Contains(without, at(i, dot)) {
						continue
					}
					to := place{sym, from.left || len(r.Right[:dot]) > 0, from.right || len(r.Right[dot+1:]) > 0}
					if !slices.Contains(come, to) {
						come = append(come, to)
					}
				}
			}
		}
		goOn(place{sym: self})
		for i := 0; i < len(come); i++ {
			goOn(come[i])
		}
		has := func(is func(p place) bool) bool {
			return slices.ContainsFunc(come, func(p place) bool { return p.sym == self && is(p) })
		}
		want.left = append(want.left, has(func(p place) bool { return p.left }))
		want.right = append(want.right, has(func(p place) bool { return p.right }))
		want.both = append(want.both, has(func(p place) bool { return p.left && p.right }))
	}
	return want
}

// wantLaws: P11.2 holds, and what is told is what follows from which nonterminals hang on each other: one has itself to a side just if, of its own component, an inner occurrence stands not at that end.
func wantLaws(t *testing.T, g api.Grammar, without []api.Spot) {
	t.Helper()
	component := depend.Components(g, without)
	want := answer{make([]bool, len(g.Names)), make([]bool, len(g.Names)), make([]bool, len(g.Names))}
	for _, spot := range depend.Inner(g, without) {
		r := g.Rules[spot.Rule]
		for n := range g.Names {
			if component[n] == component[r.Left-len(g.Terms)] {
				want.left[n] = want.left[n] || spot.Dot > 0
				want.right[n] = want.right[n] || spot.Dot+1 < len(r.Right)
			}
		}
	}
	got := ask(g, without)
	for n := range g.Names {
		want.both[n] = want.left[n] && want.right[n]
		if got.both[n] && !(got.left[n] && got.right[n]) {
			t.Errorf("%s without %s: %s has itself to both sides, but not to each", short(g), short(without), g.Names[n])
		}
	}
	wantAnswer(t, g, without, want)
}

// P11.1, P11.2: all small grammars, without each choice of their occurrences, held against the chapter's words.
func TestAllSmallGrammars(t *testing.T) {
	seen := 0
	check := func(g api.Grammar) {
		all := depend.Spots(g)
		for choice := range 1 << len(all) {
			seen++
			var without []api.Spot
			for i, spot := range all {
				if choice>>i%2 == 1 {
					without = append(without, spot)
				}
			}
			wantAnswer(t, g, without, byWords(g, without))
			slices.Reverse(without)
			wantLaws(t, g, append(without, without...))
		}
	}
	eachGrammar("", "S", 3, 2, check)
	eachGrammar("a", "S", 3, 3, check)
	eachGrammar("", "S T", 3, 2, check)
	eachGrammar("a", "S T", 2, 3, check)
	eachGrammar("", "S T U", 4, 1, check)
	eachGrammar("a", "S T U", 3, 2, check)
	if seen < 50000 {
		t.Errorf("%d answers alone", seen)
	}
}

// mixed is a grammar of up to as many rules and symbols as there may be, made by a fixed reckoning from that number.
func mixed(t *testing.T, number uint32) api.Grammar {
	const names = "ABCDEFGHIJKLMNOPQRSTUVWXYZabcdefghijklmn"
	draw := func(below int) int {
		number = number*1664525 + 1013904223
		return int(number>>16) % below
	}
	kinds, most, quotes := 2+draw(api.MaxNames-1), 1+draw(5), 1+draw(90)
	var s strings.Builder
	for n := range api.MaxRules {
		s.WriteString(names[n%kinds : n%kinds+1])
		s.WriteString("=")
		for range draw(most + 1) {
			if draw(100) < quotes {
				s.WriteString("'" + names[draw(api.MaxTerms):][:1] + "'")
			} else {
				s.WriteString(" " + names[draw(kinds):][:1])
			}
		}
		s.WriteString(";")
	}
	return read(t, s.String())
}

// P11.1, P11.2: grammars of many rules, without some occurrences, held against the chapter's words.
func TestMixedGrammars(t *testing.T) {
	for number := range uint32(120) {
		g := mixed(t, number)
		all := depend.Spots(g)
		for part := range 12 {
			var without []api.Spot
			for i, spot := range all {
				if (i*7+int(number)*5)%11 < part {
					without = append(without, spot)
				}
			}
			wantAnswer(t, g, without, byWords(g, without))
			wantLaws(t, g, without)
		}
	}
	for _, g := range []api.Grammar{ordinary(), circle(), chain(), mesh(6), full(), wide(api.MaxTerms, api.MaxNames), manyRules(api.MaxRules)} {
		wantAnswer(t, g, nil, byWords(g, nil))
		wantLaws(t, g, nil)
	}
}

func whole[T any](l []T) []T { return l[:cap(l)] }

// withRoom is l in a list that has spare room, which is filled.
func withRoom[T any](l []T, spare T) []T {
	return append(slices.Clone(l), spare, spare)[:len(l)]
}

// grammarWithRoom is g in lists that have spare room, which is filled.
func grammarWithRoom(g api.Grammar) api.Grammar {
	g.Terms = withRoom(g.Terms, "spare")
	g.Names = withRoom(g.Names, "spare")
	g.Rules = withRoom(g.Rules, rule(9, 9))
	for i, r := range g.Rules {
		g.Rules[i].Right = withRoom(r.Right, 9)
	}
	return g
}

// roomOf is all that g's lists have, spare room included.
func roomOf(g api.Grammar) string {
	s := fmt.Sprintf("%q %q %v", whole(g.Terms), whole(g.Names), whole(g.Rules))
	for _, r := range g.Rules {
		s += fmt.Sprint(whole(r.Right))
	}
	return s
}

// Rule 2 of the document: what is handed in is not changed, its spare room included.
func TestArgumentsAreNotChanged(t *testing.T) {
	wrong := ordinary()
	wrong.Rules[4].Right[0] = 7
	for _, x := range []api.Grammar{ordinary(), wrong, circle(), chain(), full()} {
		g := grammarWithRoom(x)
		without := withRoom(spots(2, 0, 0, 0, 0, 0, -1, 7, 1, 0), at(3, 0))
		before := roomOf(g) + fmt.Sprint(whole(without))
		ask(g, without)
		if after := roomOf(g) + fmt.Sprint(whole(without)); after != before {
			t.Errorf("%s was changed to %s", before, after)
		}
	}
	// What stands in spare room is not left out.
	g := read(t, "S = A 'x' S ; A = B ; B = S A | 'b' ;")
	wantAnswer(t, g, withRoom(spots(2, 0), at(0, 2)), ask(g, spots(2, 0)))
}

// Rule 2 of the document: what is told is new memory: no two answers, and no answer and an argument, share any.
func TestAnswersAreNew(t *testing.T) {
	for _, g := range []api.Grammar{ordinary(), circle(), full(), read(t, "S = A 'b' S ; A = S | 'c' A ;")} {
		want := byWords(g, nil)
		kept := ask(g, nil)
		for _, l := range [][]bool{embed.Left(g, nil), embed.Right(g, nil), embed.Both(g, nil)} {
			for i := range whole(l) {
				whole(l)[i] = !whole(l)[i]
			}
		}
		if !kept.equal(want) {
			t.Errorf("%s: one list was handed out twice", short(g))
		}
		wantAnswer(t, g, nil, want)
	}
}

// Rules 2 and 4 of the document: nil and empty lists are one, and neither what was told before nor what stands in spare room is to be seen in an answer.
func TestAnswersHangOnArgumentsAlone(t *testing.T) {
	empty := api.Grammar{Terms: []string{}, Names: []string{"S"}, Rules: []api.Rule{{Right: []int{}}}}
	for range 200 {
		wantAlike(t, empty, nil, false, false, false)
		wantAlike(t, empty, []api.Spot{}, false, false, false)
		wantAnswer(t, ordinary(), []api.Spot{}, byWords(ordinary(), nil))
		wantNothing(t, api.Grammar{})
		wantAnswer(t, grammarWithRoom(ordinary()), nil, byWords(ordinary(), nil))
		wantNames(t, "S = 'a' S 'a' ;", nil, "S", "S", "S")
		wantNames(t, "S = 'a' S 'a' ;", spots(0, 1), "", "", "")
		wantNames(t, "S = A ; A = S 'b' ;", nil, "", "S A", "")
		wantNames(t, "S = A ; A = 'a' 'b' ;", nil, "", "", "")
	}
}

// Rule 5 of the document: what goroutines a call begins are over when it ends.
func TestGoroutinesAreOver(t *testing.T) {
	before := runtime.NumGoroutine()
	for range 200 {
		for _, g := range []api.Grammar{ordinary(), circle(), full(), {}} {
			ask(g, spots(0, 0, 1, 0, -1, 0))
		}
	}
	// A goroutine that is over may be counted for a moment.
	for wait := 0; runtime.NumGoroutine() > before && wait < 1000; wait++ {
		time.Sleep(time.Millisecond)
	}
	if after := runtime.NumGoroutine(); after > before {
		t.Errorf("%d goroutines go on", after-before)
	}
}
