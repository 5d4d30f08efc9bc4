package parse

import (
	"fmt"
	"strings"
	"testing"

	"abacus/api"
)

// lineTold tells what Line gives.
func lineTold(l api.Line, at int, e api.Errno) string {
	return fmt.Sprintf("kind %d, name %q, args %q, %s, %d, %v", l.Kind, l.Name, l.Args, told(l.Term), at, e)
}

func checkLine(t *testing.T, s string, want api.Line) {
	t.Helper()
	l, at, e := Line(s)
	if got, want := lineTold(l, at, e), lineTold(want, 0, api.OK); got != want {
		t.Errorf("P15.2: Line(%s): %s; wanted %s", short(s), short(got), short(want))
	}
}

func checkLineFault(t *testing.T, s string, at int, e api.Errno) {
	t.Helper()
	l, gotAt, gotE := Line(s)
	if got, want := lineTold(l, gotAt, gotE), lineTold(api.Line{}, at, e); got != want {
		t.Errorf("P15.2: Line(%s): %s; wanted %s", short(s), short(got), short(want))
	}
}

// checkLineSyntax asks for ErrSyntax at the place that is marked by a | in the text.
func checkLineSyntax(t *testing.T, marked string) {
	t.Helper()
	at := strings.Index(marked, "|")
	checkLineFault(t, marked[:at]+marked[at+1:], at, api.ErrSyntax)
}

// TestNothing: lines without words.
func TestNothing(t *testing.T) {
	for _, s := range []string{"", " ", strings.Repeat(" ", 4096), "NB.", "  NB. a =: 2 + (", "NB.)names", "NB. \xff\x00"} {
		checkLine(t, s, api.Line{})
	}
	checkLineFault(t, "NB", 0, api.ErrKind)
	checkLineFault(t, "nb.", 0, api.ErrToken)
	checkLineFault(t, "\n", 0, api.ErrToken)
}

// TestAsked: nouns to be told.
func TestAsked(t *testing.T) {
	plus, y := prim("+"), noun("y")
	for s, want := range map[string]api.Term{
		"2 + 3": dy(plus, num(2), num(3)), "5": num(5), "1 2": num(1, 2), "y": y, "x + y": dy(plus, noun("x"), y), "(y)": y, "+/ y": mon(of(api.VInsert, plus), y), "Mean y": mon(verb("Mean"), y), "pick. y do. 1 end.": of(api.KPick, y, num(1)), "{{)m y }} 5": mon(def(1, say(y)), num(5)),
		"{{)d a =. x }} 5": mon(def(2, set("a", noun("x"))), num(5)), "total": noun("total"),
	} {
		checkLine(t, s, api.Line{Kind: 1, Term: want})
		checkLine(t, "   "+s+"  ", api.Line{Kind: 1, Term: want})
		checkLine(t, s+" NB. =: ) (", api.Line{Kind: 1, Term: want})
		checkLine(t, "b =: "+s, api.Line{Kind: 2, Name: "b", Term: want})
		checkLineFault(t, s+" )", len(s)+1, api.ErrSyntax)
	}
	for _, s := range []string{"+", "Mean", "+/ % #", "(+)", "{{)m }}", "[: + -", `5"_`, "1&+"} {
		checkLineFault(t, s, 0, api.ErrKind)
		checkLineFault(t, "   "+s+" ", 3, api.ErrKind)
		checkLineFault(t, s+" )", len(s)+1, api.ErrSyntax)
	}
}

// TestNamed: names of both classes with phrases of both classes.
func TestNamed(t *testing.T) {
	nouns := map[string]api.Term{"3": num(3), "1 2": num(1, 2), "a": noun("a"), "- y": mon(prim("-"), noun("y")), "2 * x": dy(prim("*"), num(2), noun("x")), "(pick. 1 do. 2 end.)": of(api.KPick, num(1), num(2))}
	verbs := map[string]api.Term{"+": prim("+"), "Sum": verb("Sum"), "+/ % #": fork(of(api.VInsert, prim("+")), prim("%"), prim("#")), "+ -": hook(prim("+"), prim("-")), `a"_`: of(api.VConst, noun("a")), "{{)m y }}": def(1, say(noun("y")))}
	for _, name := range []string{"a", "x", "y", "total", "b2C", strings.Repeat("a", 32)} {
		for s, want := range nouns {
			checkLine(t, name+" =: "+s, api.Line{Kind: 2, Name: name, Term: want})
			checkLine(t, "  "+name+"=:"+s+"  ", api.Line{Kind: 2, Name: name, Term: want})
		}
		for s := range verbs {
			checkLineFault(t, name+" =: "+s, len(name)+4, api.ErrKind)
			checkLineFault(t, " "+name+"  =:  "+s, len(name)+7, api.ErrKind)
			checkLineFault(t, name+" =: "+s+" )", len(name)+5+len(s), api.ErrSyntax)
		}
	}
	for _, name := range []string{"A", "X", "Mean", "B2c", strings.Repeat("A", 32)} {
		for s, want := range verbs {
			checkLine(t, name+" =: "+s, api.Line{Kind: 3, Name: name, Term: want})
			checkLine(t, "  "+name+"=:"+s+"  ", api.Line{Kind: 3, Name: name, Term: want})
		}
		for s := range nouns {
			checkLineFault(t, name+" =: "+s, len(name)+4, api.ErrKind)
			checkLineFault(t, name+" =: "+s+" )", len(name)+5+len(s), api.ErrSyntax)
		}
	}
	for _, marked := range []string{
		"a =:|", "A =: |", "a =: NB. 3|", "|5 =: 3", "|+ =: 3", "|_ =: 3", "|1 2 =: 3", "|( =: 3", "|[: =: +", "|/ =: 3", "|@ =: 3", "|=: =: 3", "|=. =: 3", "|; =: 3", "|if. =: 3", "|{{)m =: }}", "|}} =: 3",
		"|=: 3", "|=:", "a =: |=: 3", "|a b =: 3", "(a) |=: 3", "a =: b |=: 3", "A =: B |=: +", "a =: 2 + 3 |=: 4", "a =: 3|; 4", "a |=. 3", "A |=. +", "a =: (b |=: 3)", "a =: {{)m b |=: 3 }}", "a =: |", "a =: 2 +|", "A =: |[:", "A =: 5 +|", "a |;", "a =: 3|)", "a =: |)",
	} {
		checkLineSyntax(t, marked)
	}
}

// TestRequests: with and without names and arguments. They are not cut into words.
func TestRequests(t *testing.T) {
	for rest, want := range map[string]api.Line{
		"names": {Name: "names"}, "a": {Name: "a"}, "z": {Name: "z"}, "names ": {Name: "names"}, "show Mean": {Name: "show", Args: []string{"Mean"}}, "show   Mean   ": {Name: "show", Args: []string{"Mean"}}, "code 1  Mean": {Name: "code", Args: []string{"1  Mean"}},
		"showMean": {Name: "show", Args: []string{"Mean"}}, "fuel9": {Name: "fuel", Args: []string{"9"}}, "a)b": {Name: "a", Args: []string{")b"}}, "a.": {Name: "a", Args: []string{"."}}, "a_": {Name: "a", Args: []string{"_"}}, "mach 2 + (": {Name: "mach", Args: []string{"2 + ("}},
		"x NB. y": {Name: "x", Args: []string{"NB. y"}}, "x 1x 007 ' \xff\x00\n": {Name: "x", Args: []string{"1x 007 ' \xff\x00\n"}}, "x\t": {Name: "x", Args: []string{"\t"}}, "x =: 3": {Name: "x", Args: []string{"=: 3"}}, "é": {}, "xé": {Name: "x", Args: []string{"é"}},
		"abcdefghijklmnopqrstuvwxyzabcdefghijklmnopqrstuvwxyz q": {Name: "abcdefghijklmnopqrstuvwxyzabcdefghijklmnopqrstuvwxyz", Args: []string{"q"}},
		"": {}, " ": {}, " names": {}, "9": {}, "Names": {}, ")names": {}, "_": {}, "`": {}, "{": {}, "\x00": {}, "\xff": {}, "(": {}, ")": {},
	} {
		for _, ahead := range []string{"", " ", "     "} {
			s := ahead + ")" + rest
			if want.Name == "" {
				checkLineFault(t, s, len(ahead)+1, api.ErrSyntax)
				continue
			}
			want.Kind = 4
			checkLine(t, s, want)
			checkLine(t, s+"    ", want)
		}
	}
	// The two others know no requests.
	checkSyntax(t, "|)names")
	checkSyntax(t, " |)names")
	checkSyntax(t, "|)x + y")
	// Another first byte than the bracket: none here either.
	checkLineSyntax(t, "y |)names")
	checkLineFault(t, "\t)names", 0, api.ErrToken)
}

// TestLineLength: lines of 4096 and 4097 bytes.
func TestLineLength(t *testing.T) {
	for _, s := range []string{"", "y", " a =: 2", "A =: +", ")x"} {
		blanks := strings.Repeat(" ", api.MaxLine-len(s))
		l, at, e := Line(s)
		want := lineTold(l, at, e)
		if e != api.OK {
			t.Fatalf("the test itself: %s: %v", s, e)
		}
		for _, whole := range []string{s + blanks, blanks + s} {
			l, at, e := Line(whole)
			if got := lineTold(l, at, e); got != want {
				t.Errorf("P15.2: Line of %q with blanks: %s; wanted %s", s, got, want)
			}
			checkLineFault(t, whole+" ", 0, api.ErrLong)
			checkLineFault(t, " "+whole, 0, api.ErrLong)
		}
	}
	for _, s := range []string{"\xff", "1x ", "+ ", "( ", ")", ")a", " )9", "a =: +", "y ", "y y "} {
		checkLineFault(t, strings.Repeat(s, 4097/len(s)+1), 0, api.ErrLong)
	}
	checkLineFault(t, "+"+strings.Repeat(" ", 4095), 0, api.ErrKind)
	checkLineFault(t, "(5"+strings.Repeat(" ", 4094), 4096, api.ErrSyntax)
	name := strings.Repeat("a", 4095)
	checkLine(t, ")"+name, api.Line{Kind: 4, Name: name})
	checkLineFault(t, ")"+name+"a", 0, api.ErrLong)
	checkLineFault(t, strings.Repeat(" ", 1<<20+1), 0, api.ErrLong)
}

// TestLineOrder: the errors of the words, of the reading, of the class, of the term, in that order.
func TestLineOrder(t *testing.T) {
	for _, c := range []struct {
		s  string
		at int
		e  api.Errno
	}{
		{"+ =: 3 1x", 7, api.ErrNumber}, {"a =: + ) 1x", 9, api.ErrNumber}, {"y y a.b", 4, api.ErrToken}, {"a =: + )", 7, api.ErrSyntax}, {"+ )", 2, api.ErrSyntax}, {"A =: x&+ )", 9, api.ErrSyntax}, {"+ =: )", 0, api.ErrSyntax}, {"5 =: +", 0, api.ErrSyntax},
		{"A =: x", 5, api.ErrKind}, {"a =: x&+", 5, api.ErrKind}, {"x&+", 0, api.ErrKind}, {"A =: x&+ y", 5, api.ErrKind}, {"A =: {{)m x }}", 14, api.ErrTerm}, {"A =: {{)m x }} ", 15, api.ErrTerm}, {"{{)m x }} 5", 11, api.ErrTerm}, {"a =: y&+ 5", 10, api.ErrTerm}, {"x&+ y NB. z", 11, api.ErrTerm},
		{"A =: {{)m + }}", 10, api.ErrKind}, {"A =: {{)m + }} )", 10, api.ErrKind}, {"a =: (+", 7, api.ErrSyntax},
	} {
		checkLineFault(t, c.s, c.at, c.e)
	}
}
