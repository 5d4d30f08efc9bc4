package print

import (
	"slices"
	"strings"
	"testing"

	"abacus/api"
)

// TestNumbersAndNames: of every width and sign; 64 is a number like others.
func TestNumbersAndNames(t *testing.T) {
	checkNouns(t, []written{
		{num(0), "0"}, {num(7), "7"}, {num(-7), "_7"}, {num(10), "10"}, {num(-10), "_10"}, {num(64), "64"}, {num(-64), "_64"}, {num(api.Max), "9223372036854775807"}, {num(api.Min), "_9223372036854775808"}, {num(api.Min + 1), "_9223372036854775807"},
		{num(1, -2), "1 _2"}, {num(0, 0, 0), "0 0 0"}, {num(64, 64), "64 64"}, {num(api.Min, 0, api.Max), "_9223372036854775808 0 9223372036854775807"}, {num(slices.Repeat([]int64{-1}, 64)...), strings.Repeat("_1 ", 63) + "_1"},
		{noun("x"), "x"}, {noun("y"), "y"}, {noun("total"), "total"}, {noun("a9Z"), "a9Z"}, {noun(strings.Repeat("z", 32)), strings.Repeat("z", 32)},
	})
}

// TestOneArgument: a verb ahead of nouns of every kind.
func TestOneArgument(t *testing.T) {
	y := noun("y")
	for _, v := range eachVerb() {
		checkNoun(t, mon(v.t, y), v.text+" y")
		checkNoun(t, mon(v.t, of(api.KPick, y, num(1))), v.text+" pick. y do. 1 end.")
		checkNoun(t, mon(v.t, mon(prim("-"), num(1))), v.text+" - 1")
		checkNoun(t, mon(prim("-"), mon(v.t, y)), "- "+v.text+" y")
	}
	checkNouns(t, []written{
		{mon(prim("-"), num(1, 2)), "- 1 2"}, {mon(prim("-"), mon(prim("+"), mon(verb("Mean"), y))), "- + Mean y"}, {mon(prim("-"), dy(prim("+"), num(1), num(2))), "- 1 + 2"}, {mon(of(api.VHook, prim("+"), prim("-")), num(1)), "(+ -) 1"},
	})
}

// TestTwoArguments: the left one between brackets, if it is made by a verb; the right one as it stands.
func TestTwoArguments(t *testing.T) {
	plus, minus, x, y := prim("+"), prim("-"), noun("x"), noun("y")
	for _, v := range eachVerb() {
		checkNoun(t, dy(v.t, x, y), "x "+v.text+" y")
		checkNoun(t, dy(v.t, of(api.KPick, x, y), y), "pick. x do. y end. "+v.text+" y")
		checkNoun(t, dy(v.t, mon(minus, num(1)), y), "(- 1) "+v.text+" y")
		checkNoun(t, dy(v.t, dy(minus, num(1), num(2)), y), "(1 - 2) "+v.text+" y")
		checkNoun(t, dy(minus, x, mon(v.t, y)), "x - "+v.text+" y")
	}
	checkNouns(t, []written{
		{dy(plus, num(1, 2), num(3, 4)), "1 2 + 3 4"}, {dy(plus, x, dy(plus, x, dy(plus, x, y))), "x + x + x + y"}, {dy(plus, dy(plus, dy(plus, x, x), x), y), "((x + x) + x) + y"}, {dy(plus, mon(minus, x), mon(minus, y)), "(- x) + - y"},
		{dy(plus, of(api.KPick, x, y), of(api.KPick, y, x)), "pick. x do. y end. + pick. y do. x end."}, {dy(of(api.VHook, plus, minus), num(1), num(2)), "1 (+ -) 2"},
	})
}

// texts are nouns, and verbs, by whether a number stands at the end that would meet another one.
type texts struct{ number, other []written }

// rights are nouns by how they begin; lefts are left nouns, as they stand ahead of a verb, by whether they are numbers.
func rights() texts {
	plus, y, two := prim("+"), noun("y"), of(api.VBondL, num(2), prim("+"))
	return texts{
		number: []written{
			{num(3), "3"}, {num(-3), "_3"}, {num(3, 4), "3 4"}, {dy(plus, num(3), y), "3 + y"}, {dy(plus, num(3, 4), y), "3 4 + y"}, {mon(two, y), "2&+ y"}, {mon(of(api.VInsert, two), y), "2&+/ y"}, {mon(constant(2), y), `2"_ y`},
			{dy(two, num(3), y), "3 (2&+) y"}, {mon(of(api.VAgenda, plus, two), y), "2&+@.+ y"}, {mon(two, num(3)), "2&+ 3"}, {dy(ranked(plus, 1), num(3), num(4)), `3 (+"1) 4`},
		},
		other: []written{
			{y, "y"}, {mon(plus, num(3)), "+ 3"}, {dy(plus, y, num(3)), "y + 3"}, {mon(constant(2), num(3)), `(2"_) 3`}, {mon(constant(2), mon(two, y)), `(2"_) 2&+ y`}, {dy(plus, mon(two, y), y), "(2&+ y) + y"}, {dy(plus, dy(plus, num(1), y), y), "(1 + y) + y"},
			{of(api.KPick, num(1), num(2)), "pick. 1 do. 2 end."}, {dy(plus, of(api.KPick, num(1), num(2)), y), "pick. 1 do. 2 end. + y"}, {mon(of(api.VBondL, noun("a"), plus), y), "a&+ y"}, {mon(of(api.VHook, constant(1), plus), y), `(1"_ +) y`}, {dy(two, y, num(3)), "y 2&+ 3"}, {mon(of(api.VAgenda, plus, two, two), y), "(2&+`2&+)@.+ y"},
		},
	}
}

func lefts() texts {
	plus, x := prim("+"), noun("x")
	return texts{
		number: []written{{num(9), "9"}, {num(-9), "_9"}, {num(9, 8), "9 8"}},
		other:  []written{{x, "x"}, {mon(plus, num(9)), "(+ 9)"}, {dy(plus, x, num(9)), "(x + 9)"}, {dy(plus, num(9), num(8)), "(9 + 8)"}, {of(api.KPick, num(9), num(8)), "pick. 9 do. 8 end."}},
	}
}

// enders and beginners are verbs by how their phrases end, and begin.
func enders() texts {
	plus, one := prim("+"), num(1)
	return texts{
		number: []written{{of(api.VConst, noun("a")), `a"_`}, {ranked(plus, 1), `+"1`}, {ranked(plus, 0, 64), `+"0 _`}, {of(api.VBondR, plus, one), "+&1"}, {of(api.VPow, plus, num(-1, 2)), "+^:_1 2"}},
		other:  []written{{plus, "+"}, {verb("A1"), "A1"}, {of(api.VBondR, plus, noun("a1")), "+&a1"}, {of(api.VPow, plus, noun("a")), "+^:a"}, {of(api.VInsert, of(api.VBondR, plus, one)), "+&1/"}, {of(api.VAt, plus, of(api.VBondR, plus, one)), "+@:(+&1)"}, {of(api.VHook, plus, ranked(plus, 1)), `(+ +"1)`}, {of(api.VAgenda, ranked(plus, 1), plus), `+@.(+"1)`}},
	}
}

func beginners() texts {
	plus, two := prim("+"), num(2)
	out := texts{
		number: []written{{of(api.VBondL, two, plus), "2&+"}, {of(api.VBondL, num(-2, 3), plus), "_2 3&+"}, {of(api.VAgenda, plus, constant(2)), `2"_@.+`}, {of(api.VInsert, constant(2)), `2"_/`}, {of(api.VBondR, constant(2), noun("a")), `2"_&a`}, {of(api.VPow, constant(2), noun("a")), `2"_^:a`}, {of(api.VSwap, ranked(of(api.VBondL, two, plus), 1)), `2&+"1~`}},
		other:  []written{{plus, "+"}, {verb("A"), "A"}, {of(api.VBondL, noun("a"), plus), "a&+"}, {of(api.VAgenda, plus, constant(2), constant(2)), "(2\"_`2\"_)@.+"}, {of(api.VHook, constant(2), plus), `(2"_ +)`}, {of(api.VAtop, plus, constant(2)), `+@(2"_)`}, {def(1, say(two)), "{{)m 2 }}"}},
	}
	for kind, sign := range between() {
		out.number = append(out.number, written{of(kind, constant(2), plus), `2"_` + sign + "+"})
	}
	return out
}

// TestNumbersOnTheRight: a verb stands between brackets, if it ends with a number and the noun's text begins with one, else not.
func TestNumbersOnTheRight(t *testing.T) {
	v, n := enders(), rights()
	for i, verbs := range [][]written{v.number, v.other} {
		for j, nouns := range [][]written{n.number, n.other} {
			for _, v := range verbs {
				phrase := v.text
				if i+j == 0 {
					phrase = "(" + v.text + ")"
				}
				for _, n := range nouns {
					checkNoun(t, mon(v.t, n.t), phrase+" "+n.text)
					checkNoun(t, dy(v.t, noun("x"), n.t), "x "+phrase+" "+n.text)
					checkNoun(t, dy(v.t, num(7), n.t), "7 "+phrase+" "+n.text)
				}
			}
		}
	}
}

// TestNumbersOnTheLeft: so it does, if it begins with a number and the left noun is one.
func TestNumbersOnTheLeft(t *testing.T) {
	n, v := lefts(), beginners()
	for i, nouns := range [][]written{n.number, n.other} {
		for j, verbs := range [][]written{v.number, v.other} {
			for _, v := range verbs {
				phrase := v.text
				if i+j == 0 {
					phrase = "(" + v.text + ")"
				}
				for _, n := range nouns {
					checkNoun(t, dy(v.t, n.t, noun("y")), n.text+" "+phrase+" y")
				}
				checkNoun(t, mon(v.t, num(3)), v.text+" 3")
			}
		}
	}
}

// TestNumbersOnBothSides: one pair of brackets is enough.
func TestNumbersOnBothSides(t *testing.T) {
	both, x, y := constant(5), noun("x"), noun("y")
	checkNouns(t, []written{
		{dy(both, num(1), num(2)), `1 (5"_) 2`}, {dy(both, num(1), y), `1 (5"_) y`}, {dy(both, x, num(2)), `x (5"_) 2`}, {dy(both, x, y), `x 5"_ y`}, {mon(both, num(2)), `(5"_) 2`}, {mon(both, y), `5"_ y`},
		{mon(both, mon(both, y)), `(5"_) 5"_ y`}, {mon(both, mon(both, num(1))), `5"_ (5"_) 1`}, {mon(both, mon(both, mon(both, y))), `5"_ (5"_) 5"_ y`}, {mon(both, dy(both, num(1), y)), `(5"_) 1 (5"_) y`}, {mon(both, dy(both, x, y)), `5"_ x 5"_ y`},
	})
}

// TestPicks: of one branch and of as many as there may be, with nouns of every kind.
func TestPicks(t *testing.T) {
	x, y, plus := noun("x"), noun("y"), prim("+")
	checkNouns(t, []written{
		{of(api.KPick, x, y), "pick. x do. y end."}, {of(api.KPick, num(1, 2), num(3, 4)), "pick. 1 2 do. 3 4 end."}, {of(api.KPick, dy(plus, x, y), mon(plus, x), dy(plus, x, y), num(1)), "pick. x + y do. + x or. x + y or. 1 end."},
		{of(api.KPick, of(api.KPick, x, y), of(api.KPick, x, y, y)), "pick. pick. x do. y end. do. pick. x do. y or. y end. end."}, {mon(plus, of(api.KPick, x, y)), "+ pick. x do. y end."},
		{of(api.KPick, slices.Repeat([]api.Term{num(1)}, 17)...), "pick. 1 do. " + strings.Repeat("1 or. ", 15) + "1 end."},
		{of(api.KPick, mon(constant(5), num(1)), mon(constant(5), y), dy(constant(5), num(1), y)), `pick. (5"_) 1 do. 5"_ y or. 1 (5"_) y end.`},
	})
}

// TestSentences: of every kind, with bodies that have sentences and such as have none.
func TestSentences(t *testing.T) {
	x, y, one, two, plus := noun("x"), noun("y"), num(1), num(2), prim("+")
	some, none := body(say(one), set("a", two)), body()
	for _, c := range []struct {
		sentences []api.Term
		text      string
	}{
		{[]api.Term{say(one)}, "1 "}, {[]api.Term{say(mon(plus, y))}, "+ y "}, {[]api.Term{set("a", one)}, "a =. 1 "}, {[]api.Term{set("x", dy(plus, x, y))}, "x =. x + y "}, {[]api.Term{set("y", of(api.KPick, x, y))}, "y =. pick. x do. y end. "},
		{[]api.Term{of(api.SIf, y, none, none)}, "if. y do. else. end. "}, {[]api.Term{of(api.SIf, y, some, none)}, "if. y do. 1; a =. 2 else. end. "}, {[]api.Term{of(api.SIf, y, none, some)}, "if. y do. else. 1; a =. 2 end. "}, {[]api.Term{of(api.SIf, dy(plus, one, y), some, some)}, "if. 1 + y do. 1; a =. 2 else. 1; a =. 2 end. "},
		{[]api.Term{of(api.SWhile, y, none)}, "while. y do. end. "}, {[]api.Term{of(api.SWhile, mon(plus, y), some)}, "while. + y do. 1; a =. 2 end. "},
		{[]api.Term{say(one), of(api.SWhile, y, none), of(api.SIf, y, none, none), set("a", one), say(two)}, "1; while. y do. end.; if. y do. else. end.; a =. 1; 2 "},
		{[]api.Term{of(api.SIf, y, body(of(api.SIf, x, none, some)), body(of(api.SWhile, x, body(of(api.SWhile, y, none)))))}, "if. y do. if. x do. else. 1; a =. 2 end. else. while. x do. while. y do. end. end. end. "},
		{[]api.Term{of(api.SWhile, mon(def(1, say(one)), y), body(say(mon(def(1), y))))}, "while. {{)m 1 }} y do. {{)m }} y end. "},
		{[]api.Term{say(mon(of(api.VBondR, plus, one), num(2))), set("a", mon(of(api.VBondL, one, plus), y))}, "(+&1) 2; a =. 1&+ y "},
	} {
		checkVerb(t, def(2, c.sentences...), "{{)d "+c.text+"}}")
		checkNoun(t, mon(def(2, c.sentences...), one), "{{)d "+c.text+"}} 1")
	}
}
