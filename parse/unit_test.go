package parse

import (
	"math"
	"slices"
	"strconv"
	"strings"
	"testing"

	"abacus/api"
	catalogue "abacus/prim"
)

// spellings are the primitives' texts.
func spellings(t *testing.T) []string {
	var out []string
	for op := 1; op <= api.Prims; op++ {
		p, e := catalogue.Info(op)
		if e != api.OK {
			t.Fatal(e)
		}
		out = append(out, p.Spelling)
	}
	return out
}

// TestPrimaries: each by its first word.
func TestPrimaries(t *testing.T) {
	for _, s := range spellings(t) {
		checkVerb(t, s, prim(s))
		checkVerb(t, "("+s+")", prim(s))
		checkNoun(t, s+" y", mon(prim(s), noun("y")))
	}
	checkAll(t, []read{
		{"x", noun("x")}, {"y", noun("y")}, {"a1B2", noun("a1B2")}, {strings.Repeat("z", 32), noun(strings.Repeat("z", 32))}, {"if", noun("if")}, {"i", noun("i")},
		{"X", verb("X")}, {"Mean", verb("Mean")}, {"A1b", verb("A1b")}, {strings.Repeat("Z", 32), verb(strings.Repeat("Z", 32))}, {"NB", verb("NB")}, {"I", verb("I")},
		{" y ", noun("y")}, {"  +  ", prim("+")}, {"(y)", noun("y")}, {"((y))", noun("y")}, {"( ( + ) )", prim("+")}, {"(5)", num(5)}, {"+ NB. plus", prim("+")}, {"5 NB. )", num(5)},
		{"{{)m }}", def(1)}, {"{{)d }}", def(2)}, {"{{)m}}", def(1)}, {"{{)d}}", def(2)}, {"{{)m y }}", def(1, say(noun("y")))}, {"({{)d x }})", def(2, say(noun("x")))},
		{"pick. x do. y end.", of(api.KPick, noun("x"), noun("y"))}, {"pick. 1 do. 2 or. 3 or. 4 end.", of(api.KPick, num(1), num(2), num(3), num(4))}, {"pick. - 1 do. 2 + 3 or. (4) end.", of(api.KPick, mon(prim("-"), num(1)), dy(prim("+"), num(2), num(3)), num(4))},
		{"pick. pick. 1 do. 2 end. do. pick. 3 do. 4 end. or. 5 end.", of(api.KPick, of(api.KPick, num(1), num(2)), of(api.KPick, num(3), num(4)), num(5))}, {"(pick. 1 do. 2 end.)", of(api.KPick, num(1), num(2))},
		{"pick. 1 do. " + strings.Repeat("2 or. ", 15) + "2 end.", of(api.KPick, append([]api.Term{num(1)}, slices.Repeat([]api.Term{num(2)}, 16)...)...)},
	})
}

// TestNumbers: of one number a scalar, of more a list.
func TestNumbers(t *testing.T) {
	for _, n := range []int64{0, 1, -1, 9, 10, 64, -64, 1234567890, math.MaxInt64, math.MinInt64, math.MaxInt64 - 1, math.MinInt64 + 1, 1 << 32, -1 << 53} {
		s := strings.Replace(strconv.FormatInt(n, 10), "-", "_", 1)
		checkNoun(t, s, num(n))
		checkNoun(t, "("+s+")", num(n))
		checkNoun(t, s+"   "+s, num(n, n))
		checkNoun(t, "1 "+s+" _2", num(1, n, -2))
		checkVerb(t, s+`"_`, constant(n))
		checkVerb(t, "+&"+s+" 7", of(api.VBondR, prim("+"), num(n, 7)))
	}
	for n := 1; n <= api.MaxList; n++ {
		checkNoun(t, strings.Repeat(" 7 ", n), num(slices.Repeat([]int64{7}, n)...))
	}
	checkNounFault(t, strings.Repeat("7 ", 64)+"7", 129, api.ErrTerm)
	for _, marked := range []string{"|_", "|1 _", "|_ 1", "|1 _ 2", " |_ _", "(|_)", "+ |_", "|_ + 2", "+&|_", "+&|2 _", "|_&+", `|_"_`, "+^:|_", "{{)m |_ }}", "{{)m a =. |1 _ }}", "pick. |_ do. 1 end.", "pick. 1 do. |_ end.", "(+`|_)", "(|_`+)", "+@|_", "+@.|_"} {
		checkSyntax(t, marked)
	}
}

// sides are texts of primaries of each class, with their terms.
func sides() (verbs, operands, otherNouns []read) {
	verbs = []read{
		{"-", prim("-")}, {"Mean", verb("Mean")}, {"(-)", prim("-")}, {"(-/)", of(api.VInsert, prim("-"))}, {"(- *)", hook(prim("-"), prim("*"))}, {"([: - *)", of(api.VCap, prim("-"), prim("*"))}, {"{{)m }}", def(1)}, {"{{)d x }}", def(2, say(noun("x")))},
		{`(5"_)`, constant(5)}, {"((- *)@.%)", of(api.VAgenda, prim("%"), hook(prim("-"), prim("*")))}, {"(2&-)", of(api.VBondL, num(2), prim("-"))}, {"i.", prim("i.")},
	}
	operands = []read{{"5", num(5)}, {"_5 7", num(-5, 7)}, {"a", noun("a")}, {"total1", noun("total1")}, {"(5)", num(5)}, {"((a))", noun("a")}, {"(1 2)", num(1, 2)}, {"0", num(0)}}
	otherNouns = []read{{"(- 5)", mon(prim("-"), num(5))}, {"(1 + a)", dy(prim("+"), num(1), noun("a"))}, {"pick. 1 do. 2 end.", of(api.KPick, num(1), num(2))}, {"(pick. a do. a end.)", of(api.KPick, noun("a"), noun("a"))}}
	return verbs, operands, otherNouns
}

// adverbs and ofVerbs are the kinds that each adverb, and each conjunction of two verbs, makes.
func adverbs() map[string]int {
	return map[string]int{"/": api.VInsert, `\`: api.VPrefix, `\.`: api.VSuffix, "~": api.VSwap}
}

func ofVerbs() map[string]int {
	return map[string]int{"@": api.VAtop, "@:": api.VAt, "&": api.VComp, "&:": api.VApp, "&.": api.VUnder, "&.:": api.VUnderAll, "..": api.VDot, "::": api.VAdverse, ":.": api.VObv, ":": api.VBoth, "^:": api.VPowV}
}

// TestAdverbs: each, of what each class of primary makes.
func TestAdverbs(t *testing.T) {
	verbs, operands, nouns := sides()
	for sign, kind := range adverbs() {
		for _, u := range verbs {
			checkVerb(t, u.s+" "+sign, of(kind, u.want))
			checkVerb(t, u.s+sign+" "+sign, of(kind, of(kind, u.want)))
			checkNoun(t, u.s+sign+" y", mon(of(kind, u.want), noun("y")))
			for other, otherKind := range adverbs() {
				checkVerb(t, u.s+sign+" "+other, of(otherKind, of(kind, u.want)))
			}
		}
		for _, n := range append(operands, nouns...) {
			checkSyntax(t, n.s+" |"+sign)
			checkSyntax(t, n.s+" |"+sign+" +")
			checkSyntax(t, "+ "+n.s+" |"+sign)
		}
		checkSyntax(t, "|"+sign)
		checkSyntax(t, "(|"+sign+")")
		checkSyntax(t, "+@|"+sign)
	}
}

// TestConjunctions: each, with each class of its two sides.
func TestConjunctions(t *testing.T) {
	verbs, operands, nouns := sides()
	for sign, kind := range ofVerbs() {
		sign := " " + sign + " "
		for _, u := range verbs {
			for _, v := range verbs {
				checkVerb(t, u.s+sign+v.s, of(kind, u.want, v.want))
			}
			for _, n := range nouns {
				checkSyntax(t, u.s+sign+"|"+n.s)
			}
			checkSyntax(t, u.s+sign+"|")
		}
		for _, n := range nouns {
			checkSyntax(t, n.s+" |"+sign[1:]+"-")
			checkSyntax(t, n.s+" |"+sign[1:])
		}
		checkSyntax(t, "|"+sign[1:]+"-")
		if sign == " & " || sign == " ^: " {
			continue
		}
		for _, n := range operands {
			checkSyntax(t, n.s+" |"+sign[1:]+"-")
			checkSyntax(t, n.s+" |"+sign[1:]+"5")
			checkSyntax(t, n.s+" |"+sign[1:])
			checkSyntax(t, "-"+sign+"|"+n.s)
		}
	}
}

// TestBonds: & and ^: with operands.
func TestBonds(t *testing.T) {
	verbs, operands, nouns := sides()
	for _, n := range operands {
		for _, u := range verbs {
			checkVerb(t, n.s+"&"+u.s, of(api.VBondL, n.want, u.want))
			checkVerb(t, u.s+"&"+n.s, of(api.VBondR, u.want, n.want))
			checkVerb(t, u.s+"^:"+n.s, of(api.VPow, u.want, n.want))
			checkSyntax(t, n.s+" |^: "+u.s)
			checkSyntax(t, n.s+" |^:")
		}
		for _, m := range append(operands, nouns...) {
			checkSyntax(t, n.s+" & |"+m.s)
			checkSyntax(t, n.s+" |^: "+m.s)
		}
		checkSyntax(t, n.s+" &|")
		checkSyntax(t, n.s+" & |(+`-)")
	}
	checkVerb(t, "1&+&2", of(api.VBondR, of(api.VBondL, num(1), prim("+")), num(2)))
	checkVerb(t, "+&1&-", of(api.VComp, of(api.VBondR, prim("+"), num(1)), prim("-")))
	checkVerb(t, "+&1 2&-", of(api.VComp, of(api.VBondR, prim("+"), num(1, 2)), prim("-")))
	checkVerb(t, "+^:2^:_1", of(api.VPow, of(api.VPow, prim("+"), num(2)), num(-1)))
	// Whether a name may be an operand's is looked at when all is read.
	for _, s := range []string{"x&+", "+&y", "+^:x", `y"_`, "(x)&+", "1&(+&y)"} {
		checkVerbFault(t, s, len(s), api.ErrTerm)
		checkVerbFault(t, s+"  ", len(s)+2, api.ErrTerm)
		checkVerbFault(t, s+" )", len(s)+1, api.ErrSyntax)
	}
}

// TestRanks: ranks of a verb, and constants.
func TestRanks(t *testing.T) {
	verbs, operands, nouns := sides()
	for _, u := range verbs {
		for s, want := range map[string][]int64{"0": {0}, "_": {64}, "64": {64}, "8 _8": {8, -8}, "_ _": {64, 64}, "_ 1": {64, 1}, "1 _": {1, 64}, "_1": {-1}, "0 _ _3": {0, 64, -3}, "_ _ _": {64, 64, 64}} {
			checkVerb(t, u.s+`"`+s, ranked(u.want, want...))
			checkVerb(t, u.s+` " `+s+" /", of(api.VInsert, ranked(u.want, want...)))
		}
		for _, s := range []string{"9", "_9", "63", "65", "_64", "1 2 3 4", "_ _ _ _", "9223372036854775807", "1 2 9"} {
			checkVerbFault(t, u.s+`"`+s, len(u.s)+1+len(s), api.ErrTerm)
		}
		for _, behind := range []string{"y", "a", "A", "+", "(1)", "(_)", "/", "{{)m }}", "[:", ")", ""} {
			checkSyntax(t, u.s+` "|`+behind)
		}
		checkVerb(t, u.s+`"1"2`, ranked(ranked(u.want, 1), 2))
	}
	for _, n := range operands {
		checkVerb(t, n.s+`"_`, of(api.VConst, n.want))
		checkVerb(t, n.s+` " _ "1`, ranked(of(api.VConst, n.want), 1))
		for _, behind := range []string{"0", "64", "_1", "1 _", "_ 1", "_ _", "+", "y", "(_)", "/", ""} {
			checkSyntax(t, n.s+` "|`+behind)
		}
	}
	for _, n := range nouns {
		checkSyntax(t, n.s+` |"_`)
		checkSyntax(t, n.s+` |"0`)
		checkSyntax(t, n.s+` |"`)
	}
}

// TestAgendas: of one branch and of a gerund's.
func TestAgendas(t *testing.T) {
	verbs, operands, nouns := sides()
	for _, u := range verbs {
		for _, v := range verbs {
			checkVerb(t, u.s+"@."+v.s, of(api.VAgenda, v.want, u.want))
			checkVerb(t, "("+u.s+"`"+v.s+")@.*", of(api.VAgenda, prim("*"), u.want, v.want))
			checkVerb(t, "( "+u.s+" ` + ` "+v.s+" ) @. *", of(api.VAgenda, prim("*"), u.want, prim("+"), v.want))
			checkVerb(t, "(+`-)@."+u.s+"@."+v.s, of(api.VAgenda, v.want, of(api.VAgenda, u.want, prim("+"), prim("-"))))
		}
		for _, n := range append(operands, nouns...) {
			checkSyntax(t, u.s+"@.|"+n.s)
			checkSyntax(t, "("+u.s+"`-)@.|"+n.s)
			checkSyntax(t, n.s+"|@."+u.s)
			checkSyntax(t, "("+u.s+"`|"+n.s+")@.*")
			checkSyntax(t, "(|"+n.s+"`"+u.s+")@.*")
			checkSyntax(t, "("+u.s+"`"+u.s+"`|"+n.s+"`"+u.s+")@.*")
		}
		checkSyntax(t, u.s+"@.|(+`-)")
		checkSyntax(t, u.s+"@.|")
	}
	checkAll(t, []read{
		{"(+/`-&1`*\"1)@.(#@,)", of(api.VAgenda, of(api.VAtop, prim("#"), prim(",")), of(api.VInsert, prim("+")), of(api.VBondR, prim("-"), num(1)), ranked(prim("*"), 1))},
		{"((+`-)@.*`%)@.#", of(api.VAgenda, prim("#"), of(api.VAgenda, prim("*"), prim("+"), prim("-")), prim("%"))}, {"((+ -)`%)@.#", of(api.VAgenda, prim("#"), hook(prim("+"), prim("-")), prim("%"))},
		{"(+`-)@.* /", of(api.VInsert, of(api.VAgenda, prim("*"), prim("+"), prim("-")))}, {"# (+`-)@.* %", fork(prim("#"), of(api.VAgenda, prim("*"), prim("+"), prim("-")), prim("%"))}, {"((+`-)@.*)", of(api.VAgenda, prim("*"), prim("+"), prim("-"))},
		{"(5\"_`6\"_)@.*", of(api.VAgenda, prim("*"), constant(5), constant(6))}, {"(" + strings.Repeat("+`", 15) + "+)@.*", of(api.VAgenda, append([]api.Term{prim("*")}, slices.Repeat([]api.Term{prim("+")}, 16)...)...)},
	})
	many := "(" + strings.Repeat("+`", 16) + "+)@.*"
	checkVerbFault(t, many, len(many), api.ErrTerm)
}

// TestGerunds: what may not be about one.
func TestGerunds(t *testing.T) {
	for _, marked := range []string{
		"(+`-)|", "(+`-) |+", "(+`-) |5", "(+`-)|/", "(+`|)", "(+`-)|&+", "(+`-)|@-", "(+`-)|\"1", "(+`-)|`-", "((+`-)|)", "((+`-)|`*)@.%", "(+`-)|)", "+ (+`-)|", "5 + (+`-)|", "(+`-)|^:2",
		"+@|(+`-)", "+&|(+`-)", "+^:|(+`-)", "+@.|(+`-)@.*", "+ : |(+`-)", "5&|(+`-)", "(+`-)@.|(*`%)",
		"(+`|", "(+`-|", "(+`-|*)@.%", "(+`- |5)@.%", "(+`|)@.%", "(|`+)@.%", "(+`|`-)@.*", "(+`-|;)", "(+`-`|)", "|`", "+|`", "+|`-", "5|`+", "(+`(-`|)", "(+`-|=.",
		"(|[:`+)@.*", "(+`|[:)@.*", "(+`|[: -)@.*", "(|5`+)", "(+`|5)", "(+`|y", "(|y`", "(+`|y +)", "(+ -|`*)@.%", "(5 +|`*)", "([: + -|`*)",
	} {
		checkSyntax(t, marked)
	}
	// A unit that is no verb is told wherever the byte 96 stands beside it in a bracket, also behind other units.
	for _, marked := range []string{"(+ |5`-)", "(- + |a`-)@.*", "(y |5`-)", "(+ |[:`-)", "(5 |[:`-)", "(+ |(- 5)`-)"} {
		checkSyntax(t, marked)
	}
}

// TestChains: a unit takes what stands behind it from the left.
func TestChains(t *testing.T) {
	u, v, w := prim("+"), prim("-"), prim("*")
	checkAll(t, []read{
		{"+@-@*", of(api.VAtop, of(api.VAtop, u, v), w)}, {"+@(-@*)", of(api.VAtop, u, of(api.VAtop, v, w))}, {"+/@-", of(api.VAtop, of(api.VInsert, u), v)}, {"+@-/@*~", of(api.VSwap, of(api.VAtop, of(api.VInsert, of(api.VAtop, u, v)), w))},
		{`+"1@-`, of(api.VAtop, ranked(u, 1), v)}, {`+@-"1`, ranked(of(api.VAtop, u, v), 1)}, {"1&+/", of(api.VInsert, of(api.VBondL, num(1), u))}, {"+ .. - .. *", of(api.VDot, of(api.VDot, u, v), w)}, {"+ :: - :. * : %", of(api.VBoth, of(api.VObv, of(api.VAdverse, u, v), w), prim("%"))},
		{"+&.-&.:*&:%", of(api.VApp, of(api.VUnderAll, of(api.VUnder, u, v), w), prim("%"))}, {"+@:- *", hook(of(api.VAt, u, v), w)}, {"+@- * /", hook(of(api.VAtop, u, v), of(api.VInsert, w))}, {`5"_@-`, of(api.VAtop, constant(5), v)}, {`5"_ -`, hook(constant(5), v)}, {`a"_&+`, of(api.VComp, of(api.VConst, noun("a")), u)},
		{"(+ -)@* /", of(api.VInsert, of(api.VAtop, hook(u, v), w))}, {"{{)m y }}/", of(api.VInsert, def(1, say(noun("y"))))}, {"Mean^:Mean", of(api.VPowV, verb("Mean"), verb("Mean"))}, {"+/\\.~\\", of(api.VPrefix, of(api.VSwap, of(api.VSuffix, of(api.VInsert, u))))},
	})
}
