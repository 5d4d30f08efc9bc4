package parse

import (
	"strings"
	"testing"

	"abacus/api"
)

// TestOrder: the errors of the words come first, then that of the reading, the one met first, then the class's, then the term's.
func TestOrder(t *testing.T) {
	for _, c := range []struct {
		s      string
		asVerb answer
		asNoun answer
	}{
		{") ) 1x", answer{at: 4, e: api.ErrNumber}, answer{at: 4, e: api.ErrNumber}},
		{"(((( ' 1x", answer{at: 5, e: api.ErrToken}, answer{at: 5, e: api.ErrToken}},
		{"y y 007 '", answer{at: 4, e: api.ErrNumber}, answer{at: 4, e: api.ErrNumber}},
		{strings.Repeat("(", 600) + " a.b", answer{at: 601, e: api.ErrToken}, answer{at: 601, e: api.ErrToken}},
		{"{{)m + }} a." + strings.Repeat("b", 33), answer{at: 10, e: api.ErrToken}, answer{at: 10, e: api.ErrToken}},
		{"+ )", answer{at: 2, e: api.ErrSyntax}, answer{at: 2, e: api.ErrSyntax}},
		{"y )", answer{at: 2, e: api.ErrSyntax}, answer{at: 2, e: api.ErrSyntax}},
		{"{{)m + }} )", answer{at: 5, e: api.ErrKind}, answer{at: 5, e: api.ErrKind}},
		{"{{)m x }} )", answer{at: 10, e: api.ErrSyntax}, answer{at: 10, e: api.ErrSyntax}},
		{"+@y {{)m + }}", answer{at: 2, e: api.ErrSyntax}, answer{at: 2, e: api.ErrSyntax}},
		{"+@({{)m + }} y)", answer{at: 8, e: api.ErrKind}, answer{at: 8, e: api.ErrKind}},
		{"+@(+ 5 )+&)", answer{at: 2, e: api.ErrSyntax}, answer{at: 2, e: api.ErrSyntax}},
		{"+@(+ 5", answer{at: 6, e: api.ErrSyntax}, answer{at: 6, e: api.ErrSyntax}},
		{"+@(+`5", answer{at: 5, e: api.ErrSyntax}, answer{at: 5, e: api.ErrSyntax}},
		{"(1 + 2)&(", answer{at: 7, e: api.ErrSyntax}, answer{at: 7, e: api.ErrSyntax}},
		{"y z (", answer{at: 5, e: api.ErrSyntax}, answer{at: 5, e: api.ErrSyntax}},
		{"y z )", answer{at: 0, e: api.ErrSyntax}, answer{at: 0, e: api.ErrSyntax}},
		{"- [: )", answer{at: 2, e: api.ErrSyntax}, answer{at: 2, e: api.ErrSyntax}},
		{"x&+", answer{at: 3, e: api.ErrTerm}, answer{e: api.ErrKind}},
		{"x&+ y", answer{e: api.ErrKind}, answer{at: 5, e: api.ErrTerm}},
		{"   x", answer{e: api.ErrKind}, answer{t: noun("x")}},
		{"   +", answer{t: prim("+")}, answer{e: api.ErrKind}},
		{"  {{)m x }} ", answer{at: 12, e: api.ErrTerm}, answer{e: api.ErrKind}},
		{"+" + strings.Repeat("/", 256), answer{at: 257, e: api.ErrLong}, answer{e: api.ErrKind}},
		{"x&+" + strings.Repeat("/", 256), answer{at: 259, e: api.ErrLong}, answer{e: api.ErrKind}},
		{strings.Repeat(" ", 1<<20+1), answer{e: api.ErrLong}, answer{e: api.ErrLong}},
		{strings.Repeat("1x", 1<<19) + "1", answer{e: api.ErrLong}, answer{e: api.ErrLong}},
	} {
		check(t, "P15.1: Verb", c.s, verbOf(c.s), c.asVerb)
		check(t, "P15.1: Noun", c.s, nounOf(c.s), c.asNoun)
	}
}

// TestNoWords: the end stands where a unit must.
func TestNoWords(t *testing.T) {
	for _, s := range []string{"", " ", "    ", "NB.", "  NB. +", "NB. " + strings.Repeat("y", 100), strings.Repeat(" ", 1<<20)} {
		checkSyntax(t, s+"|")
	}
}

// TestEndPlace: the end's place is the length of the text, with blanks and remarks.
func TestEndPlace(t *testing.T) {
	for _, s := range []string{"(y", "y +", "+@", "5&", `+"`, "+^:", "(+`-", "(+`-)", "(+`", "{{)m", "{{)m y", "{{)m y;", "{{)m a =.", "{{)m if.", "{{)m if. y", "{{)m if. y do.", "{{)m if. y do. else.", "{{)m if. y do. end.", "{{)m while. y do. y", "pick.", "pick. y", "pick. y do.", "pick. y do. y", "pick. y do. y or."} {
		for _, behind := range []string{"", " ", "     ", " NB.", "  NB. )))  "} {
			checkSyntax(t, s+behind+"|")
			checkSyntax(t, "(("+s+behind+"|")
		}
	}
}
