package parse

import (
	"testing"

	"abacus/api"
)

// TestExamples: the chapter's.
func TestExamples(t *testing.T) {
	plus, minus, times, over := prim("+"), prim("-"), prim("*"), prim("%")
	checkAll(t, []read{
		{"+/ % #", fork(of(api.VInsert, plus), over, prim("#"))}, {"(+/ % #)", fork(of(api.VInsert, plus), over, prim("#"))}, {"+ - * %", hook(plus, fork(minus, times, over))},
		{"- [: * %", hook(minus, of(api.VCap, times, over))}, {"[: - *", of(api.VCap, minus, times)},
		{"2 + 3 * 4", dy(plus, num(2), dy(times, num(3), num(4)))}, {"- y", mon(minus, noun("y"))},
		{"1 2&+", of(api.VBondL, num(1, 2), plus)}, {"+&1 2", of(api.VBondR, plus, num(1, 2))}, {`5"_`, constant(5)}, {`+"0 _`, ranked(plus, 0, 64)},
		{"+@-/", of(api.VInsert, of(api.VAtop, plus, minus))}, {"+@(-/)", of(api.VAtop, plus, of(api.VInsert, minus))}, {"+ : -~", of(api.VSwap, of(api.VBoth, plus, minus))},
		{"(+`-)@.*", of(api.VAgenda, times, plus, minus)}, {"+@.*", of(api.VAgenda, times, plus)},
		{"{{)m a =. - y; a }}", def(1, set("a", mon(minus, noun("y"))), say(noun("a")))}, {"{{)m if. y do. end. }}", def(1, of(api.SIf, noun("y"), body(), body()))},
	})
	for _, marked := range []string{"|[:", "- |[:", "|[: -", "|y z", "|(y) 3", "+ |y z", "2 +|", "|", "(2|", "2|)", `5"|1`, "(1 + 2)|&+", "+&|(1 + 2)", "(+`-)|/", "+|`-", "{{)m y; |}}", "|_", "3 & |y"} {
		checkSyntax(t, marked)
	}
	checkVerbFault(t, "2 + 3", 0, api.ErrKind)
	checkNounFault(t, "+", 0, api.ErrKind)
	checkVerbFault(t, "{{)m x }}", 9, api.ErrTerm)
	checkVerbFault(t, "{{)m + }}", 5, api.ErrKind)
	checkNounFault(t, "1x", 0, api.ErrNumber)
}

// TestLineExamples: the chapter's.
func TestLineExamples(t *testing.T) {
	plus := prim("+")
	checkLine(t, "  ", api.Line{})
	checkLine(t, "NB. all", api.Line{})
	checkLine(t, "Mean =: +/ % #", api.Line{Kind: 3, Name: "Mean", Term: fork(of(api.VInsert, plus), prim("%"), prim("#"))})
	checkLine(t, "a =: 2 + 3", api.Line{Kind: 2, Name: "a", Term: dy(plus, num(2), num(3))})
	checkLine(t, " )time  Mean y ", api.Line{Kind: 4, Name: "time", Args: []string{"Mean y"}})
	checkLine(t, ")names", api.Line{Kind: 4, Name: "names"})
	checkLineFault(t, "a =: +", 5, api.ErrKind)
	checkLineFault(t, "+ =: 3", 0, api.ErrSyntax)
	checkLineFault(t, ")9", 1, api.ErrSyntax)
	checkLineFault(t, "a =. 2", 2, api.ErrSyntax)
}
