package parse

import (
	"strings"
	"testing"

	"abacus/api"
)

// TestTrains: of every number of units.
func TestTrains(t *testing.T) {
	u, v, w, a, b := prim("+"), prim("-"), prim("*"), verb("A"), verb("B")
	lid := func(v, w api.Term) api.Term { return of(api.VCap, v, w) }
	checkAll(t, []read{
		{"+", u}, {"+ -", hook(u, v)}, {"+ - *", fork(u, v, w)}, {"+ - * A", hook(u, fork(v, w, a))}, {"+ - * A B", fork(u, v, fork(w, a, b))}, {"A + - * A B", hook(a, fork(u, v, fork(w, a, b)))}, {"A B + - * A B", fork(a, b, fork(u, v, fork(w, a, b)))},
		{"[: - *", lid(v, w)}, {"+ [: - *", hook(u, lid(v, w))}, {"+ - [: * A", fork(u, v, lid(w, a))}, {"[: + [: - *", lid(u, lid(v, w))}, {"[: + - * A", lid(u, fork(v, w, a))}, {"A [: + [: - *", hook(a, lid(u, lid(v, w)))},
		{"(+ -) *", hook(hook(u, v), w)}, {"+ (- *)", hook(u, hook(v, w))}, {"(+ -) (- *)", hook(hook(u, v), hook(v, w))}, {"(+ - *) A B", fork(fork(u, v, w), a, b)}, {"+ (- * A) B", fork(u, fork(v, w, a), b)}, {"+ - (* A B)", fork(u, v, fork(w, a, b))},
		{"[: ([: + -) *", lid(lid(u, v), w)}, {"([: + -) ([: + -) ([: + -)", fork(lid(u, v), lid(u, v), lid(u, v))},
		{`+/ -\ *\. A~`, hook(of(api.VInsert, u), fork(of(api.VPrefix, v), of(api.VSuffix, w), of(api.VSwap, a)))}, {"+/-*/", fork(of(api.VInsert, u), v, of(api.VInsert, w))},
		{`1"_ + 2"_`, fork(constant(1), u, constant(2))}, {`5"_ (6"_)`, hook(constant(5), constant(6))}, {"1&+ -&2 (3&*)", fork(of(api.VBondL, num(1), u), of(api.VBondR, v, num(2)), of(api.VBondL, num(3), w))},
		{"{{)m }}{{)d }}", hook(def(1), def(2))}, {"i. # e.", fork(prim("i."), prim("#"), prim("e."))},
	})
}

// TestLongTrains: each verb of them stands where the rules put it, at every length.
func TestLongTrains(t *testing.T) {
	want := []api.Term{{}, prim("+"), hook(verb("A"), prim("+"))}
	text := []string{"", "+", "A +"}
	for n := 3; n <= 200; n++ {
		name := "A" + strings.Repeat("b", n%5)
		if n%2 == 1 {
			// Two more on the left: a fork of what was two shorter.
			want = append(want, fork(verb(name), prim("-"), want[n-2]))
			text = append(text, name+" - "+text[n-2])
		} else {
			want = append(want, hook(verb(name), want[n-1]))
			text = append(text, name+" "+text[n-1])
		}
		checkVerb(t, text[n], want[n])
		checkNoun(t, "("+text[n]+") y", mon(want[n], noun("y")))
	}
}

// TestLids: where a [: may not stand, and which one is told first.
func TestLids(t *testing.T) {
	for _, marked := range []string{
		"|[:", "|[: -", "- |[:", "[: |[:", "[: [: |[:", "[: |[: -", "|[: + - *", "- |[: * + -", "- * |[:", "[: - |[:", "|[: [: - *", "+ [: |[: -", "[: - * |[:", "[: [: [: |[:", "|[: + - [: * A", "([: - |[:)", "(|[:)", "+ (|[: -)",
		"|[: 3", "+ |[: 3", "|[: + 3", "3 |[: 3", "|[: + 3 + 4", "5 + [: |", "5 [: |", "(5 [:|) + 3", "[: 5 +|", "|[:/", "- |[: /", "5 [: |/", "|[: \"1", "|[:@+", "+@|[:", "+&|[:", "+^:|[:", "+@.|[:", "|[: ; +", "{{)m |[: }}", "{{)m 5 [: |}}",
	} {
		checkSyntax(t, marked)
	}
}

// TestApplied: phrases whose last unit is a noun.
func TestApplied(t *testing.T) {
	u, v, x, y := prim("+"), prim("-"), noun("x"), noun("y")
	checkAll(t, []read{
		{"+ y", mon(u, y)}, {"x + y", dy(u, x, y)}, {"+ - y", mon(u, mon(v, y))}, {"x + - y", dy(u, x, mon(v, y))}, {"+ x - y", mon(u, dy(v, x, y))}, {"x + x - y", dy(u, x, dy(v, x, y))}, {"+ + + y", mon(u, mon(u, mon(u, y)))}, {"x + - - x + y", dy(u, x, mon(v, mon(v, dy(u, x, y))))},
		{"(+ -) y", mon(hook(u, v), y)}, {"x (+ -) y", dy(hook(u, v), x, y)}, {"(x + y) - y", dy(v, dy(u, x, y), y)}, {"(- x) - y", dy(v, mon(v, x), y)}, {"x + (y)", dy(u, x, y)}, {"(x) + (y)", dy(u, x, y)}, {"((x) + (y))", dy(u, x, y)}, {"+ (- y)", mon(u, mon(v, y))}, {"(+) y", mon(u, y)},
		{"1 2 + 3 4", dy(u, num(1, 2), num(3, 4))}, {"+/ 1 2 3", mon(of(api.VInsert, u), num(1, 2, 3))}, {"5 +/ y", dy(of(api.VInsert, u), num(5), y)}, {"5 6&+ y", mon(of(api.VBondL, num(5, 6), u), y)}, {"x 5&+ y", dy(of(api.VBondL, num(5), u), x, y)}, {`+"1 y`, mon(ranked(u, 1), y)}, {"+&5 y", mon(of(api.VBondR, u, num(5)), y)}, {`(+"1) 2`, mon(ranked(u, 1), num(2))}, {`5"_ y`, mon(constant(5), y)},
		{"Mean y", mon(verb("Mean"), y)}, {"x Mean y", dy(verb("Mean"), x, y)}, {"{{)m y }} y", mon(def(1, say(y)), y)}, {"x {{)d x }} y", dy(def(2, say(x)), x, y)}, {"+ pick. 1 do. 2 end.", mon(u, of(api.KPick, num(1), num(2)))}, {"pick. 1 do. 2 end. + y", dy(u, of(api.KPick, num(1), num(2)), y)}, {"x(+)y", dy(u, x, y)}, {"+/%#y", mon(of(api.VInsert, u), mon(prim("%"), mon(prim("#"), y)))},
	})
	for _, marked := range []string{
		"|x y", "|x 5", "|5 y", "x |5 y", "|x (y)", "|(x) y", "|(+ x) y", "|pick. 1 do. 2 end. y", "+ |x y", "x + |x y", "|x y + y", "|x x + - y", "+ |(x) (y)", "(|x y)", "+ (|x y)", "(x + |x y) + y", "x |[: y", "|[: x + y", "+ |[: x + y", "|5 x + y",
		"x +|", "5 +|", "x + - |", "(x +|)", "(x + - |) y", "x (+) |", "+ x +|", "5 + NB. 6|", "x {{)m }}|", "pick. x + |do. y end.", "{{)m x +|}}", "{{)d x + |; y }}", "x + |; y", "5 + |do.", "5 + [:|", "5 +|`", "x + |=. y",
	} {
		checkSyntax(t, marked)
	}
}

// TestPhraseEnds: a word with which no unit begins, where none may stand.
func TestPhraseEnds(t *testing.T) {
	for _, word := range []string{")", "}}", ";", "do.", "else.", "end.", "or.", "if.", "while.", "=.", "=:", "`"} {
		for _, ahead := range []string{"", "y ", "+ ", "(y", "(+", "+@", "5&", "+\"", "+^:", "x + y ", "{{)m }} ", "+/", "+^:2", "(+`-", "(+`-)", "(+`", "((", "pick. ", "pick. y do. ", "+@. "} {
			if ahead == "(y" && word == ")" || ahead == "(+" && word == ")" || ahead == "(+" && word == "`" || ahead == "(+`-" && (word == "`" || word == ")") {
				continue
			}
			if ahead == "(y" && word == "`" {
				checkSyntax(t, "(|y`")
				continue
			}
			checkSyntax(t, ahead+" |"+word)
			checkSyntax(t, ahead+" |"+word+" + 3")
			checkSyntax(t, "5 + "+ahead+" |"+word)
		}
	}
}
