package parse

import (
	"slices"
	"strings"
	"testing"

	"abacus/api"
)

// nest is a text that may be written over and over, each within the one ahead, behind another one; a | stands ahead of each word that opens something, a ! ahead of each that closes it again.
type nest struct{ ahead, again string }

func nests() []nest {
	return []nest{
		{"", "|("}, {"", "+@|("}, {"", "+ |("}, {"", "y + |( "}, {"", "|(+`"}, {"", "|(+`-`+@"}, {"", "1&|("}, {"", "+^:|(5 + "}, {"", "+@.|(+ - "}, {"", "|{{)m "}, {"", "|{{)d y;"}, {"", "+ |{{)m a =. y + "}, {"", "|pick. "}, {"", "|pick. y do. "}, {"", "|pick. y do. 5 or. "}, {"", "y + |pick. |(y!) do. y + "},
		{"", "|{{)m |if. "}, {"|{{)m ", "|if. y do. "}, {"|{{)m ", "|if. y do. 5; "}, {"|{{)m ", "|if. y do. y else. "}, {"|{{)m ", "|if. y do. else. a =. 1;"}, {"", "|{{)d |while. "}, {"|{{)d ", "|while. y do. "}, {"|{{)m ", "|while. y do. |(y!);"}, {"|{{)m ", "|if. y do. |while. y do. |if. y do. !end.; "},
		{"", "|(|{{)m |if. |pick. "}, {"+ |(- ", "|{{)d |while. |(y!) do. a =. y + "}, {"", "|(+/ % #!) |("}, {"5 + ", "|{{)m |(y!) !}} |(|pick. y do. |(y!) !end. + "}, {"", "|(|(|(|(+!)!)!)!)@|("},
	}
}

// opened writes a nest out, and tells the place of the word with which more than 512 are open.
func (n nest) opened(times int) (string, int) {
	marked := n.ahead + strings.Repeat(n.again, times)
	open, first, marks := 0, -1, 0
	for at := range len(marked) {
		switch marked[at] {
		case '|':
			open++
			if open > 512 && first < 0 {
				first = at - marks
			}
			marks++
		case '!':
			open--
			marks++
		}
	}
	return strings.NewReplacer("|", "", "!", "").Replace(marked), first
}

// openingOf tells the word that opens something, with which a text begins.
func openingOf(s string) string {
	for _, word := range []string{"(", "{{)m", "{{)d", "pick.", "if.", "while."} {
		if strings.HasPrefix(s, word) {
			return word
		}
	}
	return ""
}

// TestNested: 512 may stand within one another; the one behind is told, whatever comes then.
func TestNested(t *testing.T) {
	for _, n := range nests() {
		s, at := n.opened(600)
		opening := openingOf(s[at:])
		for _, far := range []string{s[:at], s[:at] + "  "} {
			checkVerbFault(t, far, len(far), api.ErrSyntax)
			checkNounFault(t, far, len(far), api.ErrSyntax)
		}
		for _, far := range []string{s, s[:at] + opening, s[:at] + opening + " ) ) ;"} {
			checkVerbFault(t, far, at, api.ErrLong)
			checkNounFault(t, far, at, api.ErrLong)
		}
		checkVerbFault(t, s+" 1x", len(s)+1, api.ErrNumber)
	}
}

// TestNestedBrackets: brackets alone are no nodes.
func TestNestedBrackets(t *testing.T) {
	for _, n := range []int{1, 2, 255, 256, 257, 511, 512} {
		checkVerb(t, strings.Repeat("(", n)+"+"+strings.Repeat(")", n), prim("+"))
		checkNoun(t, strings.Repeat("(", n)+"y"+strings.Repeat(")", n), noun("y"))
		checkNoun(t, strings.Repeat("( ", n)+"1 2"+strings.Repeat(" )", n), num(1, 2))
		checkVerbFault(t, strings.Repeat("(", n)+"+"+strings.Repeat(")", n-1), 2*n, api.ErrSyntax)
		checkVerbFault(t, strings.Repeat("(", n)+"+"+strings.Repeat(")", n+1), 2*n+1, api.ErrSyntax)
	}
	for _, n := range []int{513, 514, 1000, 1 << 18} {
		checkVerbFault(t, strings.Repeat("(", n)+"+"+strings.Repeat(")", n), 512, api.ErrLong)
		checkNounFault(t, strings.Repeat(" (", n), 1025, api.ErrLong)
	}
}

// TestClosedAgain: what has closed counts no more.
func TestClosedAgain(t *testing.T) {
	checkVerb(t, "{{)m "+strings.Repeat("(y); if. (y) do. end.; ", 600)+"y }}", def(1, append(slices.Repeat([]api.Term{say(noun("y")), of(api.SIf, noun("y"), body(), body())}, 600), say(noun("y")))...))
	checkVerb(t, strings.Repeat("(", 511)+strings.Repeat("(+)", 3)+strings.Repeat(")", 511), fork(prim("+"), prim("+"), prim("+")))
	checkVerbFault(t, strings.Repeat("(", 511)+"(+)((+))", 515, api.ErrLong)
	checkNounFault(t, strings.Repeat("(y) ", 600)+"+ "+strings.Repeat("(", 512)+"y"+strings.Repeat(")", 512), 4*598, api.ErrSyntax)
	long := strings.Repeat("(+)", 600)
	checkVerbFault(t, long, len(long), api.ErrLong)
}

// TestGreatest: terms at the limits of nodes and depth, and one beyond.
func TestGreatest(t *testing.T) {
	slashes := strings.Repeat("/", 255)
	checkVerb(t, "+"+slashes, deep(256))
	checkVerbFault(t, "+/"+slashes+" ", 258, api.ErrLong)
	checkNoun(t, "+"+slashes[1:]+" y", mon(deep(255), noun("y")))
	checkNounFault(t, "+"+slashes+" y", 258, api.ErrLong)
	sentences := slices.Repeat([]api.Term{say(noun("y"))}, 2047)
	checkVerb(t, "{{)m "+strings.Repeat("y;", 2046)+"y }}", def(1, sentences...))
	s := "{{)m " + strings.Repeat("y;", 2047) + "y }}"
	checkVerbFault(t, s, len(s), api.ErrLong)
	// 255 forks within one another, and a hook about them.
	train := strings.Repeat("+ ", 511)
	want := prim("+")
	for range 255 {
		want = fork(prim("+"), prim("+"), want)
	}
	checkVerb(t, train, want)
	checkVerbFault(t, "+ "+train, 1024, api.ErrLong)
	checkVerbFault(t, "{{)m (+ "+train+") y }}", 1036, api.ErrLong)
	applied := strings.Repeat("- ", 255) + "y"
	nested := noun("y")
	for range 255 {
		nested = mon(prim("-"), nested)
	}
	checkNoun(t, applied, nested)
	checkNounFault(t, "- "+applied, 513, api.ErrLong)
}

// TestLong: texts of 2^20 bytes.
func TestLong(t *testing.T) {
	t.Parallel()
	filled := func(ahead, again, behind string) string {
		s := ahead + strings.Repeat(again, (api.MaxText-len(ahead)-len(behind))/len(again))
		return s + strings.Repeat(" ", api.MaxText-len(s)-len(behind)) + behind
	}
	for _, s := range []string{
		filled("", "+", ""), filled("", "+ ", "+"), filled("+", "/", ""), filled("+", `\.`, ""), filled("+", "@+", ""), filled("+", "&1", ""), filled("1&+", "&+", ""), filled("+", `"1`, ""), filled("+", "^:a", ""), filled("+", "@.+", ""), filled("(+", "`+", ")@.+"), filled("+", " : +", ""), filled("", "[: +", " +"),
		filled("", "{{)m }}", ""), filled("{{)m y", ";y", "}}"), filled("{{)d x", ";a=.x", "}}"), filled("{{)m y", ";if.y do.else.end.", "}}"), filled("{{)m ", "+", "y}}"), filled("", "(+)", ""), filled("{{)m pick. y do. y", " or. y", " end.}}"),
	} {
		checkVerbFault(t, s, len(s), api.ErrLong)
	}
	for _, s := range []string{filled("", "-", "y"), filled("y", "+y", ""), filled("", "y+", "y"), filled("", "- ", "5"), filled("pick.y do.y", " or.y", " end."), filled("", "{{)m }}", "y"), filled("", "1&+", " y")} {
		checkNounFault(t, s, len(s), api.ErrLong)
	}
	checkNounFault(t, filled("+", "/", ""), 0, api.ErrKind)
	checkVerbFault(t, filled("", "-", "y"), 0, api.ErrKind)
	numbers := filled("", "1 ", "1")
	checkNounFault(t, numbers, len(numbers), api.ErrTerm)
	checkVerbFault(t, filled("", "1 ", `1"_`), len(numbers), api.ErrTerm)
	checkVerbFault(t, filled(`+"`, "1 ", "1"), len(numbers), api.ErrTerm)
	checkVerbFault(t, filled(`+"`, "_ ", "_"), len(numbers), api.ErrTerm)
	checkVerbFault(t, filled("", "1 ", "_"), 0, api.ErrSyntax)
	checkVerb(t, filled("", " ", "+"), prim("+"))
	checkNoun(t, filled("y", " ", ""), noun("y"))
	checkNoun(t, filled("y NB.", ")", ""), noun("y"))
	checkNounFault(t, filled("", "(y)", ""), 3*(api.MaxText/3-2), api.ErrSyntax)
	checkNounFault(t, filled("y", " y", ""), api.MaxText-4, api.ErrSyntax)
	checkVerbFault(t, filled("", ")", ""), 0, api.ErrSyntax)
	checkVerbFault(t, filled("", "[:", ""), api.MaxText-2, api.ErrSyntax)
	for _, s := range []string{filled("", "+", "") + "+", filled("", " ", "") + " ", filled("", "(", "") + "("} {
		checkVerbFault(t, s, 0, api.ErrLong)
		checkNounFault(t, s, 0, api.ErrLong)
		checkLineFault(t, s, 0, api.ErrLong)
	}
}
