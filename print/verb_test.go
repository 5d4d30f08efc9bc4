package print

import (
	"slices"
	"strings"
	"testing"

	"abacus/api"
)

// primitives are all spellings.
const primitives = "+ - * % | <. >. < > = ~: <: >: +. *. +: *: -. -: ^ ! # $ , ,. ,: { {. }. {: }: |. |: i. e. ~. /: \\: #. #: [ ] I."

// TestBare: verbs that are their own texts.
func TestBare(t *testing.T) {
	spellings := strings.Fields(primitives)
	if len(spellings) != api.Prims {
		t.Fatalf("the test itself: %d primitives", len(spellings))
	}
	for _, s := range spellings {
		checkVerb(t, prim(s), s)
		checkVerb(t, of(api.VInsert, prim(s)), s+"/")
		checkVerb(t, of(api.VAt, prim(s), prim(s)), s+"@:"+s)
		checkVerb(t, of(api.VBoth, prim(s), prim(s)), s+" : "+s)
		checkVerb(t, of(api.VHook, prim(s), prim(s)), "("+s+" "+s+")")
	}
	for _, name := range []string{"A", "Mean", "Z9", "X", "Y", "I", strings.Repeat("N", 32)} {
		checkVerb(t, verb(name), name)
	}
}

// TestConstants: of numbers and of names, of every width and sign.
func TestConstants(t *testing.T) {
	checkVerbs(t, []written{
		{constant(0), `0"_`}, {constant(-7), `_7"_`}, {constant(10), `10"_`}, {constant(64), `64"_`}, {constant(1, -2, 30), `1 _2 30"_`}, {constant(64, 64), `64 64"_`},
		{constant(api.Min), `_9223372036854775808"_`}, {constant(api.Max, api.Min), `9223372036854775807 _9223372036854775808"_`},
		{constant(slices.Repeat([]int64{5}, 64)...), strings.Repeat("5 ", 63) + `5"_`}, {of(api.VConst, noun("a")), `a"_`}, {of(api.VConst, noun("xy2")), `xy2"_`},
	})
}

// TestAdverbs: behind verbs of every kind, without brackets.
func TestAdverbs(t *testing.T) {
	u := of(api.VAtop, prim("+"), prim("-"))
	checkVerbs(t, []written{
		{of(api.VInsert, u), "+@-/"}, {of(api.VPrefix, u), `+@-\`}, {of(api.VSuffix, u), `+@-\.`}, {of(api.VSwap, u), "+@-~"},
		{of(api.VPrefix, of(api.VSuffix, prim("<:"))), `<:\.\`}, {of(api.VSuffix, of(api.VPrefix, prim("<:"))), `<:\\.`}, {of(api.VPrefix, of(api.VPrefix, prim(`\:`))), `\:\\`},
		{of(api.VSwap, of(api.VHook, prim("+"), prim("-"))), "(+ -)~"}, {of(api.VInsert, def(2, say(noun("x")))), "{{)d x }}/"}, {of(api.VInsert, constant(5)), `5"_/`}, {of(api.VSwap, ranked(prim("+"), 1)), `+"1~`},
		{of(api.VInsert, of(api.VDot, prim("+"), prim("-"))), "+ .. -/"}, {of(api.VPrefix, of(api.VAgenda, prim("*"), prim("+"))), `+@.*\`}, {of(api.VSwap, verb("Mean")), "Mean~"}, {deep(256), "+" + strings.Repeat("/", 255)},
	})
}

// behind is what each adverb puts behind its verb.
func behind() map[int]string {
	return map[int]string{api.VInsert: "/", api.VPrefix: `\`, api.VSuffix: `\.`, api.VSwap: "~"}
}

// between is what each conjunction puts between its verbs.
func between() map[int]string {
	return map[int]string{
		api.VAtop: "@", api.VAt: "@:", api.VComp: "&", api.VApp: "&:", api.VUnder: "&.", api.VUnderAll: "&.:", api.VPowV: "^:",
		api.VDot: " .. ", api.VAdverse: " :: ", api.VObv: " :. ", api.VBoth: " : ",
	}
}

// phrased is a verb with its phrase, as it stands and closed.
type phrased struct {
	t            api.Term
	text, closed string
}

// eachVerb is a verb of every kind.
func eachVerb() []phrased {
	plus, minus, five, a := prim("+"), prim("-"), num(5), noun("a")
	out := []phrased{
		{prim("<."), "<.", "<."}, {prim("i."), "i.", "i."}, {verb("Mean"), "Mean", "Mean"},
		{constant(5), `5"_`, `(5"_)`}, {of(api.VConst, a), `a"_`, `(a"_)`},
		{def(1), "{{)m }}", "{{)m }}"}, {def(2, say(noun("x"))), "{{)d x }}", "{{)d x }}"},
		{of(api.VBondL, five, plus), "5&+", "(5&+)"}, {of(api.VBondL, a, plus), "a&+", "(a&+)"},
		{of(api.VBondR, plus, five), "+&5", "(+&5)"}, {of(api.VBondR, plus, a), "+&a", "(+&a)"},
		{of(api.VPow, plus, num(5, -6)), "+^:5 _6", "(+^:5 _6)"}, {of(api.VPow, plus, a), "+^:a", "(+^:a)"},
		{ranked(plus, -8, 8, 64), `+"_8 8 _`, `(+"_8 8 _)`},
		{of(api.VAgenda, minus, plus), "+@.-", "(+@.-)"}, {of(api.VAgenda, minus, plus, minus), "(+`-)@.-", "((+`-)@.-)"},
		{of(api.VHook, plus, minus), "(+ -)", "(+ -)"}, {of(api.VFork, plus, minus, plus), "(+ - +)", "(+ - +)"}, {of(api.VCap, plus, minus), "([: + -)", "([: + -)"},
	}
	for kind, sign := range behind() {
		out = append(out, phrased{of(kind, plus), "+" + sign, "(+" + sign + ")"})
	}
	for kind, sign := range between() {
		out = append(out, phrased{of(kind, plus, minus), "+" + sign + "-", "(+" + sign + "-)"})
	}
	return out
}

// TestConjunctions: each with verbs of every kind on both sides, the left one as it stands, the right one closed.
func TestConjunctions(t *testing.T) {
	for _, u := range eachVerb() {
		checkVerb(t, u.t, u.text)
		for _, v := range eachVerb() {
			for kind, sign := range between() {
				checkVerb(t, of(kind, u.t, v.t), u.text+sign+v.closed)
			}
		}
	}
}

// TestOperands: numbers and names on either side of a bond, and behind a power.
func TestOperands(t *testing.T) {
	for _, n := range []written{{num(5), "5"}, {num(-5), "_5"}, {num(1, -2, 3), "1 _2 3"}, {num(64), "64"}, {num(api.Min, api.Max), "_9223372036854775808 9223372036854775807"}, {noun("a"), "a"}, {noun("total2"), "total2"}} {
		for _, v := range eachVerb() {
			checkVerb(t, of(api.VBondL, n.t, v.t), n.text+"&"+v.closed)
			checkVerb(t, of(api.VBondR, v.t, n.t), v.text+"&"+n.text)
			checkVerb(t, of(api.VPow, v.t, n.t), v.text+"^:"+n.text)
		}
		checkVerb(t, of(api.VConst, n.t), n.text+`"_`)
	}
}

// TestRanks: one, two and three, at both ends; 64 is written as what it means, here alone.
func TestRanks(t *testing.T) {
	for _, v := range eachVerb() {
		checkVerb(t, ranked(v.t, 1), v.text+`"1`)
		checkVerb(t, ranked(v.t, 64), v.text+`"_`)
	}
	plus := prim("+")
	checkVerbs(t, []written{
		{ranked(plus, 0), `+"0`}, {ranked(plus, 8), `+"8`}, {ranked(plus, -8), `+"_8`}, {ranked(plus, -1), `+"_1`}, {ranked(plus, 64), `+"_`},
		{ranked(plus, 64, 64), `+"_ _`}, {ranked(plus, 0, 64, -1), `+"0 _ _1`}, {ranked(plus, 64, 64, 64), `+"_ _ _`}, {ranked(plus, -8, 8, 64), `+"_8 8 _`}, {ranked(plus, 1, 2), `+"1 2`},
		{ranked(ranked(plus, 1), -1, 0, 64), `+"1"_1 0 _`}, {ranked(constant(64), 64), `64"_"_`}, {ranked(of(api.VBondR, plus, num(64)), 64), `+&64"_`}, {of(api.VPow, ranked(plus, 64), num(64)), `+"_^:64`},
	})
}

// TestAgendas: of one branch, of several, of as many as there may be.
func TestAgendas(t *testing.T) {
	for _, v := range eachVerb() {
		checkVerb(t, of(api.VAgenda, v.t, prim("+")), "+@."+v.closed)
		checkVerb(t, of(api.VAgenda, prim("*"), v.t), v.text+"@.*")
		checkVerb(t, of(api.VAgenda, v.t, v.t, v.t), "("+v.text+"`"+v.text+")@."+v.closed)
	}
	most := slices.Repeat([]api.Term{constant(1)}, 17)
	checkVerb(t, of(api.VAgenda, most...), "("+strings.Repeat("1\"_`", 15)+`1"_)@.(1"_)`)
	checkVerb(t, of(api.VAgenda, prim("]"), prim("+"), of(api.VInsert, prim("-")), of(api.VHook, prim("*"), prim("%"))), "(+`-/`(* %))@.]")
	checkVerb(t, of(api.VAgenda, prim("]"), of(api.VAgenda, prim("["), prim("+"), prim("-"))), "(+`-)@.[@.]")
	checkVerb(t, of(api.VAgenda, prim("]"), of(api.VAgenda, prim("["), prim("+"), prim("-")), prim("*")), "((+`-)@.[`*)@.]")
}

// TestTrains: of verbs of every kind that meet no number.
func TestTrains(t *testing.T) {
	plus, minus := prim("+"), prim("-")
	for _, v := range eachVerb() {
		checkVerb(t, of(api.VHook, v.t, plus), "("+v.text+" +)")
		checkVerb(t, of(api.VHook, plus, v.t), "(+ "+v.text+")")
		checkVerb(t, of(api.VFork, v.t, plus, v.t), "("+v.text+" + "+v.text+")")
		checkVerb(t, of(api.VFork, plus, v.t, minus), "(+ "+v.text+" -)")
		checkVerb(t, of(api.VCap, v.t, plus), "([: "+v.text+" +)")
		checkVerb(t, of(api.VCap, plus, v.t), "([: + "+v.text+")")
	}
	checkVerbs(t, []written{
		{of(api.VCap, of(api.VCap, plus, minus), of(api.VCap, minus, plus)), "([: ([: + -) ([: - +))"}, {of(api.VFork, of(api.VHook, plus, minus), of(api.VFork, plus, minus, plus), of(api.VCap, plus, minus)), "((+ -) (+ - +) ([: + -))"},
		{of(api.VHook, of(api.VBoth, plus, minus), of(api.VDot, plus, minus)), "(+ : - + .. -)"}, {of(api.VHook, prim("["), prim("]")), "([ ])"},
	})
}

// TestTrainsOfNumbers: a verb that begins with a number stands between brackets where one that ends with a number is ahead of it.
func TestTrainsOfNumbers(t *testing.T) {
	plus, minus, a, one, two := prim("+"), prim("-"), noun("a"), num(1), num(2)
	ends := []written{{constant(1), `1"_`}, {of(api.VConst, a), `a"_`}, {ranked(plus, 1), `+"1`}, {ranked(plus, 64), `+"_`}, {of(api.VBondR, plus, one), "+&1"}, {of(api.VPow, plus, num(1, 2)), "+^:1 2"}, {ranked(constant(1), 0), `1"_"0`}, {of(api.VBondR, of(api.VBondL, one, plus), two), "1&+&2"}}
	open := []written{{plus, "+"}, {verb("Mean2"), "Mean2"}, {of(api.VBondR, plus, a), "+&a"}, {of(api.VPow, plus, noun("a2")), "+^:a2"}, {of(api.VBondL, a, plus), "a&+"}, {of(api.VInsert, constant(1)), `1"_/`}, {of(api.VAtop, plus, constant(1)), `+@(1"_)`}, {of(api.VHook, plus, constant(1)), `(+ 1"_)`}, {def(1, say(one)), "{{)m 1 }}"}, {of(api.VAgenda, plus, constant(1)), `1"_@.+`}}
	begins := []written{{constant(2), `2"_`}, {constant(-2), `_2"_`}, {of(api.VBondL, two, plus), "2&+"}, {of(api.VBondL, num(2, 3), plus), "2 3&+"}, {ranked(constant(2), 64), `2"_"_`}, {of(api.VBondR, constant(2), a), `2"_&a`}, {of(api.VPow, constant(2), one), `2"_^:1`}, {of(api.VAgenda, plus, constant(2)), `2"_@.+`}, {of(api.VAgenda, plus, of(api.VInsert, of(api.VAgenda, plus, constant(2)))), `2"_@.+/@.+`}}
	for kind, sign := range behind() {
		begins = append(begins, written{of(kind, constant(2)), `2"_` + sign})
	}
	for kind, sign := range between() {
		begins = append(begins, written{of(kind, of(api.VInsert, of(api.VBondL, two, minus)), plus), "2&-/" + sign + "+"})
	}
	other := []written{{minus, "-"}, {verb("A"), "A"}, {of(api.VConst, a), `a"_`}, {of(api.VBondL, a, constant(1)), `a&(1"_)`}, {of(api.VHook, constant(1), plus), `(1"_ +)`}, {def(1, say(one)), "{{)m 1 }}"}, {of(api.VAgenda, plus, constant(1), constant(2)), "(1\"_`2\"_)@.+"}, {of(api.VAtop, plus, constant(1)), `+@(1"_)`}, {of(api.VBondR, plus, one), "+&1"}, {ranked(plus, 1), `+"1`}}
	for _, u := range append(slices.Clone(ends), open...) {
		for _, v := range append(slices.Clone(begins), other...) {
			second := v.text
			if slices.ContainsFunc(ends, func(w written) bool { return w.text == u.text }) && slices.ContainsFunc(begins, func(w written) bool { return w.text == v.text }) {
				second = "(" + v.text + ")"
			}
			checkVerb(t, of(api.VHook, u.t, v.t), "("+u.text+" "+second+")")
			checkVerb(t, of(api.VCap, u.t, v.t), "([: "+u.text+" "+second+")")
			checkVerb(t, of(api.VFork, u.t, v.t, plus), "("+u.text+" "+second+" +)")
			checkVerb(t, of(api.VFork, plus, u.t, v.t), "(+ "+u.text+" "+second+")")
		}
	}
	// A verb between brackets has a phrase that ends with a number, all the same.
	checkVerb(t, of(api.VFork, constant(1), constant(2), constant(3)), `(1"_ (2"_) (3"_))`)
	checkVerb(t, of(api.VFork, constant(1), of(api.VInsert, constant(2)), constant(3)), `(1"_ (2"_/) 3"_)`)
	checkVerb(t, of(api.VFork, constant(1), plus, constant(3)), `(1"_ + 3"_)`)
	checkVerb(t, of(api.VHook, constant(1), of(api.VHook, constant(2), constant(3))), `(1"_ (2"_ (3"_)))`)
}

// TestDefinitions: of both valences, with sentences and without.
func TestDefinitions(t *testing.T) {
	x, y := noun("x"), noun("y")
	checkVerbs(t, []written{
		{def(1), "{{)m }}"}, {def(2), "{{)d }}"}, {def(1, say(y)), "{{)m y }}"}, {def(2, say(dy(prim("+"), x, y))), "{{)d x + y }}"}, {def(1, say(num(1)), say(num(2)), say(num(3))), "{{)m 1; 2; 3 }}"},
		{def(2, set("x", num(0)), set("total", mon(prim("-"), x))), "{{)d x =. 0; total =. - x }}"}, {def(1, say(mon(def(2, say(x)), y))), "{{)m {{)d x }} y }}"}, {def(1, say(mon(constant(5), num(3))), set("a", num(4))), `{{)m (5"_) 3; a =. 4 }}`},
		{of(api.VAtop, def(1), def(2)), "{{)m }}@{{)d }}"}, {of(api.VHook, def(1, say(num(1))), of(api.VBondL, num(2), def(2))), "({{)m 1 }} 2&{{)d }})"},
	})
}
