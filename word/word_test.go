package word

import (
	"strings"
	"testing"

	"abacus/api"
	"abacus/prim"
)

// TestExamples: the chapter's examples.
func TestExamples(t *testing.T) {
	checkWords(t, "Mean =: +/ % #", "3 0 Mean", "7 5 =:", "4 8 +", "5 9 /", "4 11 %", "4 13 #")
	checkWords(t, `1  _2 3&+"0 _ y`, "1 0 1 _2 3", "6 7 &", "4 8 +", `6 9 "`, "1 10 0 _", "2 14 y")
	checkWords(t, "{{)m if. y do. 1 else. 2 end. }}", "7 0 {{)m", "7 5 if.", "2 9 y", "7 11 do.", "1 15 1", "7 17 else.", "1 23 2", "7 25 end.", "7 30 }}")
	checkWords(t, "+/ ..*~.~:", "4 0 +", "5 1 /", "6 3 ..", "4 5 *", "4 6 ~.", "4 8 ~:")
	checkWords(t, ")names", "7 0 )names")
	checkWords(t, "(x)", "7 0 (", "2 1 x", "7 2 )")
	checkWords(t, "5 NB. five", "1 0 5")
	for line, place := range map[string]int{"1 2x": 2, "007": 0, "_0": 0, "_a": 0, "9223372036854775808": 0} {
		checkRefused(t, line, place, api.ErrNumber)
	}
	for line, place := range map[string]int{"for.": 0, "+::": 0, "a . b": 2, "{{ y": 0, "a,'b'": 2} {
		checkRefused(t, line, place, api.ErrToken)
	}
}

// TestEachWord: each word of the table that is written out there, alone, and with blanks about it.
func TestEachWord(t *testing.T) {
	for kind, words := range map[string]string{
		"2": "a z x y x1 aB9 iF total nb",
		"3": "A Z X1 Mean NB Nb IF",
		"4": "+ - * % | <. >. < > = ~: <: >: +. *. +: *: -. -: ^ ! # $ , ,. ,: { {. }. {: }: |. |: i. e. ~. /: \\: #. #: [ ] I.",
		"5": "/ \\ \\. ~",
		"6": "@ @: @. & &: &. &.: .. :: :. : ^: \" `",
		"7": "{{)m {{)d }} ( ) ; =. =: [: if. do. else. end. while. pick. or.",
	} {
		for w := range strings.FieldsSeq(words) {
			checkWords(t, w, kind+" 0 "+w)
			checkWords(t, "  "+w+"   ", kind+" 2 "+w)
			checkWords(t, "x "+w+" x", "2 0 x", kind+" 2 "+w, "2 "+place(3+len(w))+" x")
		}
	}
}

// TestEachPrimitive: what prim tells as a spelling is a primitive.
func TestEachPrimitive(t *testing.T) {
	for op := 1; op <= api.Prims; op++ {
		p, _ := prim.Info(op)
		checkWords(t, p.Spelling+" "+p.Spelling, "4 0 "+p.Spelling, "4 "+place(len(p.Spelling)+1)+" "+p.Spelling)
	}
}

// TestNumbers: numbers by themselves and one behind the other, however many blanks are between.
func TestNumbers(t *testing.T) {
	for _, n := range strings.Fields("0 1 9 10 100 _1 _10 _ 9223372036854775807 _9223372036854775808 9223372036854775799") {
		checkWords(t, n, "1 0 "+n)
		checkWords(t, " "+n+"  "+n+" ", "1 1 "+n+" "+n)
		checkWords(t, n+"+"+n, "1 0 "+n, "4 "+place(len(n))+" +", "1 "+place(len(n)+1)+" "+n)
	}
	checkWords(t, "1     2  3 _   _ 0", "1 0 1 2 3 _ _ 0")
	checkWords(t, "_ _1", "1 0 _ _1")
	checkWords(t, "_+_", "1 0 _", "4 1 +", "1 2 _")
	checkWords(t, "_ x", "1 0 _", "2 2 x")
	checkWords(t, "x _", "2 0 x", "1 2 _")
	checkWords(t, "x_", "2 0 x", "1 1 _")
	checkWords(t, "x_1", "2 0 x", "1 1 _1")
	checkWords(t, "1 2 (3 4)5", "1 0 1 2", "7 4 (", "1 5 3 4", "7 8 )", "1 9 5")
	checkWords(t, "1 2;3", "1 0 1 2", "7 3 ;", "1 4 3")
	checkWords(t, "1 2 NB. 3", "1 0 1 2")
	checkWords(t, "1:2", "1 0 1", "6 1 :", "1 2 2")
	checkWords(t, "1..2", "1 0 1", "6 1 ..", "1 3 2")
	checkWords(t, "_..5", "1 0 _", "6 1 ..", "1 3 5")
}

// TestLetters: names, how long they may be, and words of letters with a dot.
func TestLetters(t *testing.T) {
	small, great := strings.Repeat("a", 32), strings.Repeat("A9", 16)
	checkWords(t, small, "2 0 "+small)
	checkWords(t, great+" "+small, "3 0 "+great, "2 33 "+small)
	checkRefused(t, small+"b", 0, api.ErrToken)
	checkRefused(t, "x "+great+"1", 2, api.ErrToken)
	checkRefused(t, strings.Repeat("a", 1<<20), 0, api.ErrToken)
	checkRefused(t, small+"b.", 0, api.ErrToken)
	checkRefused(t, small+".", 0, api.ErrToken)

	checkWords(t, "i.e.I.", "4 0 i.", "4 2 e.", "4 4 I.")
	checkWords(t, "i.5", "4 0 i.", "1 2 5")
	checkWords(t, "i.x", "4 0 i.", "2 2 x")
	checkWords(t, "i.:e.", "4 0 i.", "6 2 :", "4 3 e.")
	checkWords(t, "i...", "4 0 i.", "6 2 ..")
	checkWords(t, "if.do.x end.", "7 0 if.", "7 3 do.", "2 6 x", "7 8 end.")
	checkWords(t, "if do else end while pick or i e I", "2 0 if", "2 3 do", "2 6 else", "2 11 end", "2 15 while", "2 21 pick", "2 26 or", "2 29 i", "2 31 e", "3 33 I")
	checkWords(t, "if:", "2 0 if", "6 2 :")
	checkWords(t, "1 a1 A", "1 0 1", "2 2 a1", "3 5 A")
	for _, line := range strings.Fields("for. x. X. E. If. IF. ifx. xif. i1. i0. ii. nb. Nb. nB. NBx. aNB. NB1. x..y elseif. or1.") {
		checkRefused(t, line, 0, api.ErrToken)
		checkRefused(t, "+ "+line, 2, api.ErrToken)
	}
	checkRefused(t, "i..", 2, api.ErrToken)
	checkRefused(t, "if..", 3, api.ErrToken)
}

// TestRemarks: behind NB. all is passed over, whatever the bytes.
func TestRemarks(t *testing.T) {
	checkWords(t, "NB.")
	checkWords(t, "  NB. 1x for. {{ \x00\xff\n é NB.")
	checkWords(t, "NB..")
	checkWords(t, "NB.x")
	checkWords(t, "x NB.'", "2 0 x")
	checkWords(t, "+NB.'", "4 0 +")
	checkWords(t, "i.NB. y", "4 0 i.")
	checkWords(t, "(NB. )", "7 0 (")
	checkWords(t, "NB .. x", "3 0 NB", "6 3 ..", "2 6 x")
	checkWords(t, "NB:x", "3 0 NB", "6 2 :", "2 3 x")
	checkWords(t, "NB", "3 0 NB")
	checkRefused(t, "' NB.", 0, api.ErrToken)
	checkRefused(t, "1NB. x", 0, api.ErrNumber)
}

// TestRequests: a request is one at the line's very first byte alone, of letters alone.
func TestRequests(t *testing.T) {
	checkWords(t, ")a", "7 0 )a")
	checkWords(t, ")Names", "7 0 )Names")
	checkWords(t, ")show Mean", "7 0 )show", "3 6 Mean")
	checkWords(t, ")a5", "7 0 )a", "1 2 5")
	checkWords(t, ")a)b", "7 0 )a", "7 2 )", "2 3 b")
	long := strings.Repeat("q", 100)
	checkWords(t, ")"+long, "7 0 )"+long)
	checkWords(t, ")", "7 0 )")
	checkWords(t, ") a", "7 0 )", "2 2 a")
	checkWords(t, " )a", "7 1 )", "2 2 a")
	checkWords(t, ")5", "7 0 )", "1 1 5")
	checkWords(t, "))a", "7 0 )", "7 1 )", "2 2 a")
	checkWords(t, ")(a", "7 0 )", "7 1 (", "2 2 a")
	checkWords(t, "(a)b", "7 0 (", "2 1 a", "7 2 )", "2 3 b")
	checkWords(t, ")_", "7 0 )", "1 1 _")
	checkRefused(t, ")i. 5", 2, api.ErrToken)
	checkRefused(t, ")NB. 5", 3, api.ErrToken)
	checkRefused(t, ")if. 5", 3, api.ErrToken)
}

// TestBrackets: brackets of definitions, and { and } beside one another.
func TestBrackets(t *testing.T) {
	checkWords(t, "{{)m}}", "7 0 {{)m", "7 4 }}")
	checkWords(t, "{{)d}}", "7 0 {{)d", "7 4 }}")
	checkWords(t, "{{)mx{{)dy}}}}", "7 0 {{)m", "2 4 x", "7 5 {{)d", "2 9 y", "7 10 }}", "7 12 }}")
	checkWords(t, "{ {{)m", "4 0 {", "7 2 {{)m")
	checkWords(t, "{. {.{:{ {", "4 0 {.", "4 3 {.", "4 5 {:", "4 7 {", "4 9 {")
	checkWords(t, "{{)m..", "7 0 {{)m", "6 4 ..")
	checkWords(t, "{{)md", "7 0 {{)m", "2 4 d")
	checkWords(t, "{)m", "4 0 {", "7 1 )", "2 2 m")
	checkWords(t, "}}}.}:", "7 0 }}", "4 2 }.", "4 4 }:")
	checkWords(t, "}}:", "7 0 }}", "6 2 :")
	checkWords(t, "(:;:):", "7 0 (", "6 1 :", "7 2 ;", "6 3 :", "7 4 )", "6 5 :")
	for _, line := range []string{"{{", "{{ ", "{{)", "{{)M", "{{)D", "{{)x", "{{ )m", "{{x", "{{.", "{{:", "{{{)m", "{{{", "{{}}"} {
		checkRefused(t, line, 0, api.ErrToken)
		checkRefused(t, "x "+line, 2, api.ErrToken)
	}
	checkRefused(t, "{.{{", 2, api.ErrToken)
	for line, at := range map[string]int{"}": 0, "} }": 0, "}}}": 2, "}}.": 2, "(.": 1, ").": 1, ";.": 1, "{{)m.": 4} {
		checkRefused(t, line, at, api.ErrToken)
	}
}

// TestSigns: a sign takes all dots and colons right behind it, and is a word as a whole or not at all.
func TestSigns(t *testing.T) {
	checkWords(t, "a&.:b^:c:.d::e", "2 0 a", "6 1 &.:", "2 4 b", "6 5 ^:", "2 7 c", "6 8 :.", "2 10 d", "6 11 ::", "2 13 e")
	checkWords(t, `/:\:\.\`, "4 0 /:", `4 2 \:`, `5 4 \.`, `5 6 \`)
	checkWords(t, "a=.b=:c=d", "2 0 a", "7 1 =.", "2 3 b", "7 4 =:", "2 6 c", "4 7 =", "2 8 d")
	checkWords(t, "[:[]", "7 0 [:", "4 2 [", "4 3 ]")
	checkWords(t, "+ :", "4 0 +", "6 2 :")
	checkWords(t, "+`-@.*", "4 0 +", "6 1 `", "4 2 -", "6 3 @.", "4 5 *")
	checkWords(t, "~~.~:~", "5 0 ~", "4 1 ~.", "4 3 ~:", "5 5 ~")
	checkWords(t, ".. ..", "6 0 ..", "6 3 ..")
	for line := range strings.FieldsSeq(". .: ... ..: ::: :.: ::. :.. =.. =.: =:: [. [:: ]. ]: /. /.: /:: \\.. \\:: ~.. ~:. @:. @.. @:: &:. &.. &.:: &:: ^. ^:: \". \": `. `: +:: +.: %. %: $. $: !. !: #.: ' '' ? ?. ?: }") {
		checkRefused(t, line, 0, api.ErrToken)
		checkRefused(t, "x+ "+line, 3, api.ErrToken)
	}
	checkRefused(t, "+"+strings.Repeat(".", 1<<19), 0, api.ErrToken)
}

// TestNothing: lines without a word.
func TestNothing(t *testing.T) {
	for _, line := range []string{"", " ", "     ", strings.Repeat(" ", 1<<20)} {
		checkWords(t, line)
	}
}
