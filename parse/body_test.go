package parse

import (
	"strings"
	"testing"

	"abacus/api"
)

// sentences are sentences of every kind, with their texts.
func sentences() []read {
	x, y, plus := noun("x"), noun("y"), prim("+")
	return []read{
		{"y", say(y)}, {"5", say(num(5))}, {"x + y", say(dy(plus, x, y))}, {"(a)", say(noun("a"))}, {"pick. y do. 1 end.", say(of(api.KPick, y, num(1)))}, {"{{)m y }} 5", say(mon(def(1, say(y)), num(5)))},
		{"a =. y", set("a", y)}, {"x=.5", set("x", num(5))}, {"y =. + y", set("y", mon(plus, y))}, {"total1 =. (x + y)", set("total1", dy(plus, x, y))}, {"a =. {{)d a =. 1 }} 5", set("a", mon(def(2, set("a", num(1))), num(5)))},
		{"if. y do. end.", of(api.SIf, y, body(), body())}, {"if. y do. else. end.", of(api.SIf, y, body(), body())}, {"if. y do. 1 end.", of(api.SIf, y, body(say(num(1))), body())}, {"if. y do. 1 else. end.", of(api.SIf, y, body(say(num(1))), body())}, {"if. y do. else. 2 end.", of(api.SIf, y, body(), body(say(num(2))))},
		{"if. x + y do. a =. 1; a else. 2; b =. 3; 4 end.", of(api.SIf, dy(plus, x, y), body(set("a", num(1)), say(noun("a"))), body(say(num(2)), set("b", num(3)), say(num(4))))},
		{"while. y do. end.", of(api.SWhile, y, body())}, {"while. + y do. y =. 1; 2 end.", of(api.SWhile, mon(plus, y), body(set("y", num(1)), say(num(2))))},
		{"if. y do. if. x do. 1 end. else. while. x do. if. y do. else. 2 end. end. end.", of(api.SIf, y, body(of(api.SIf, x, body(say(num(1))), body())), body(of(api.SWhile, x, body(of(api.SIf, y, body(), body(say(num(2))))))))},
	}
}

// TestSentences: each alone, and each two beside one another.
func TestSentences(t *testing.T) {
	for _, one := range sentences() {
		checkVerb(t, "{{)d "+one.s+" }}", def(2, one.want))
		checkVerb(t, "{{)d "+one.s+"}}", def(2, one.want))
		checkNoun(t, "{{)d "+one.s+" }} 5", mon(def(2, one.want), num(5)))
		checkVerb(t, "{{)d while. 1 do. "+one.s+" end. }}", def(2, of(api.SWhile, num(1), body(one.want))))
		checkVerb(t, "{{)d if. 1 do. "+one.s+" else. "+one.s+" end. }}", def(2, of(api.SIf, num(1), body(one.want), body(one.want))))
		for _, two := range sentences() {
			checkVerb(t, "{{)d "+one.s+"; "+two.s+" }}", def(2, one.want, two.want))
			checkVerb(t, "{{)d "+one.s+";"+two.s+" ; "+one.s+"}}/", of(api.VInsert, def(2, one.want, two.want, one.want)))
		}
		checkVerbFault(t, "{{)d "+one.s+" ) }}", 6+len(one.s), api.ErrSyntax)
		checkVerbFault(t, "{{)d "+one.s+"; }}", 7+len(one.s), api.ErrSyntax)
		checkVerbFault(t, "{{)d "+one.s+" ", 6+len(one.s), api.ErrSyntax)
		checkVerbFault(t, "{{)d ; "+one.s+" }}", 5, api.ErrSyntax)
		checkVerbFault(t, "{{)d "+one.s+";; "+one.s+" }}", 6+len(one.s), api.ErrSyntax)
		if one.want.Kind != api.SSay {
			checkNounFault(t, one.s, strings.Index(one.s+" ", wrongOutside(one.s)), api.ErrSyntax)
			checkVerbFault(t, "("+one.s+")", 1+strings.Index(one.s+" ", wrongOutside(one.s)), api.ErrSyntax)
		}
	}
}

// wrongOutside is the word of a sentence that may not stand outside a definition.
func wrongOutside(s string) string {
	for _, word := range []string{"if.", "while."} {
		if strings.HasPrefix(s, word) {
			return word
		}
	}
	return "=."
}

// TestBodies: what may not be in one.
func TestBodies(t *testing.T) {
	for _, marked := range []string{
		"{{)m|", "{{)m |", "{{)m y|", "{{)m |; }}", "{{)m |)", "{{)m y|)", "{{)m |else. }}", "{{)m |end. }}", "{{)m y |end. }}", "{{)m y |else. y }}", "{{)m |do. }}", "{{)m |=. 3 }}", "{{)m y |do. }}", "{{)m |or. }}", "{{)m y; |; y }}", "{{)m y |=: 3 }}", "{{)m a =. |}}", "{{)m a =. |; y }}", "{{)m a =. b |=. 3 }}", "{{)m 5 |=. 3 }}", "{{)m (a) |=. 3 }}", "{{)m a + b |=. 3 }}", "{{)m a =. b |=: 3 }}", "{{)m |=: }}", "{{)m a =.|",
		"{{)m if.|", "{{)m if. |do. end. }}", "{{)m if. y |}}", "{{)m if. y |; }}", "{{)m if. y |end. }}", "{{)m if. y |else. }}", "{{)m if. y do.|", "{{)m if. y do. |}}", "{{)m if. y do. y |}}", "{{)m if. y do. y; |end. }}", "{{)m if. y do. |; end. }}", "{{)m if. y do. |do. end. }}", "{{)m if. y do. else. |else. end. }}", "{{)m if. y do. else. |}}", "{{)m if. y do. else. y; |end. }}", "{{)m if. y do. else.|", "{{)m if. y do. end.|", "{{)m if. y do. end. |end. }}", "{{)m if. y do. end. |y }}", "{{)m y |if. y do. end. }}", "{{)m (|if. y do. end.) }}", "{{)m a =. |if. y do. end. }}", "{{)m if. a |=. y do. end. }}", "{{)m if. |if. y do. end. do. end. }}", "{{)m if. y do. end. |+ 3 }}", "{{)m if. y do. end. |/ }}",
		"{{)m while.|", "{{)m while. |do. end. }}", "{{)m while. y |}}", "{{)m while. y do. |}}", "{{)m while. y do. |else. end. }}", "{{)m while. y do. y |else. end. }}", "{{)m while. y do. y; |end. }}", "{{)m while. y do.|", "{{)m while. y do. end. |end. }}", "{{)m while. y |end. }}", "{{)m while. y do. y |do. }}",
		"|if. y do. end.", "|while. y do. end.", "y |; y", "|; y", "a |=. 3", "|}}", "y |}}", "|do.", "|end.", "|else.", "|or.", "(y |; y)", "(|if. y do. end.)", "{{)m y }} |}}", "{{)m y }} |; 3",
	} {
		checkSyntax(t, marked)
	}
}

// TestPicks: what may not be in one.
func TestPicks(t *testing.T) {
	for _, marked := range []string{
		"pick.|", "pick. |do. y end.", "pick. y|", "pick. y |end.", "pick. y |or. y end.", "pick. y do.|", "pick. y do. |end.", "pick. y do. |or. y end.", "pick. y do. y|", "pick. y do. y |)", "pick. y do. y or.|", "pick. y do. y or. |end.", "pick. y do. y |do. y end.", "pick. y do. y |; y end.", "pick. y do. y |else. y end.", "pick. y do. y end. |end.", "|or. y", "(pick. y do. y|)", "pick. y do. a |=. y end.", "pick. y do. |if. y do. end. end.", "pick. y do. y or. |or. y end.", "pick. y do. y or. y |}}",
		"pick. y |`", "pick. y do. y|`y end.",
	} {
		checkSyntax(t, marked)
	}
	many := "pick. 1 do. " + strings.Repeat("2 or. ", 16) + "2 end."
	checkNounFault(t, many, len(many), api.ErrTerm)
	checkVerbFault(t, many, 0, api.ErrKind)
}

// TestNounsWanted: where a phrase must be a noun and is a verb, ErrKind is told at its first word, as soon as it ends.
func TestNounsWanted(t *testing.T) {
	for _, marked := range []string{
		"{{)m |+ }}", "{{)m  |+/ % # }}", "{{)m |(+) }}", "{{)m |Mean =. 3 }}", "{{)m |+ =. 3 }}", "{{)m |+", "{{)m |+ ) }}", "{{)m |+ do. }}", "{{)m y; |+ - }}", "{{)m a =. |+ }}", "{{)m a =. |+ =. 3 }}", "{{)m a =. |[: + - ; y }}", "{{)m if. |+ do. end. }}", "{{)m if. |+", "{{)m if. |+ }}", "{{)m if. y do. |+ end. }}", "{{)m if. y do. y else. |+ - * }}", "{{)m while. |{{)m y }} do. end. }}", "{{)m while. y do. a =. |5&+ end. }}",
		"pick. |+ do. 1 end.", "pick. |+", "pick. |+ )", "pick. y do. |+ end.", "pick. y do. |+ +", "pick. y do. y or. |+ or. y end.", "pick. y do. y or. |+/ }}", "(pick. |(+ -) do.)", "5 + pick. |+ - do.", "+@pick. |+ do. y end.", "{{)m {{)m |+ }} 5 }}", "{{)m |{{)m y }} }}", "{{)m |5\"_ }}", "{{)m |+`- }}",
	} {
		at := strings.Index(marked, "|")
		s := marked[:at] + marked[at+1:]
		checkVerbFault(t, s, at, api.ErrKind)
		checkNounFault(t, s, at, api.ErrKind)
		// What stands behind is told first only where no word can be cut from it.
		checkVerbFault(t, s+" ) ) ]]", at, api.ErrKind)
		checkVerbFault(t, s+" 1x", len(s)+1, api.ErrNumber)
	}
}

// TestX: of a monad's body there may be no x; that is told with the length of the text.
func TestX(t *testing.T) {
	for _, s := range []string{"{{)m x }}", "{{)m x =. 3 }}", "{{)m if. y do. x end. }}", "{{)m y; a =. + x  }}  ", "{{)m {{)d x }} x }}", "{{)d {{)m x }} y }}", "+ {{)m x }}", "{{)m pick. y do. x end. }} NB. x"} {
		checkVerbFault(t, s, len(s), api.ErrTerm)
		noun := s
		if at := strings.Index(s, " NB."); at >= 0 {
			noun = s[:at]
		}
		checkNounFault(t, noun+" 3", len(noun)+2, api.ErrTerm)
	}
	checkVerb(t, "{{)d x =. x }}", def(2, set("x", noun("x"))))
	checkVerb(t, "{{)m {{)d x }} y }}", def(1, say(mon(def(2, say(noun("x"))), noun("y")))))
}
