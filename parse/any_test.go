package parse

import (
	"strings"
	"testing"

	"abacus/api"
	"abacus/print"
	"abacus/term"
	"abacus/word"
)

// checkAny asks all three calls of a text, holds the answers against the wanted ones, and asks of each that it may be.
func checkAny(t *testing.T, s string) {
	t.Helper()
	asVerb, asNoun := verbOf(s), nounOf(s)
	checkMay(t, s, asVerb, api.ClassVerb)
	checkMay(t, s, asNoun, api.ClassNoun)
	l, at, e := Line(s)
	checkMayLine(t, s, l, answer{l.Term, at, e})
	check(t, "P15.4: Verb", s, asVerb, wanted(s, api.ClassVerb))
	check(t, "P15.4: Noun", s, asNoun, wanted(s, api.ClassNoun))
	if got, want := lineTold(l, at, e), wantedLine(s); got != want {
		t.Errorf("P15.4: Line(%s): %s; wanted %s", short(s), short(got), short(want))
	}
	if t.Failed() {
		t.FailNow()
	}
}

// checkMay asks of an answer that it is a term that may be, of that class, or an error and a place.
func checkMay(t *testing.T, s string, got answer, class int) {
	t.Helper()
	switch {
	case got.at < 0 || got.at > len(s):
		t.Errorf("P15.4: %s: the place %d", short(s), got.at)
	case got.e == api.OK && (got.at != 0 || term.May(got.t, class) != api.OK):
		t.Errorf("P15.4: %s: the answer %s may not be", short(s), short(got.told()))
	case got.e != api.OK && told(got.t) != told(api.Term{}):
		t.Errorf("P15.4: %s: a term beside an error: %s", short(s), short(got.told()))
	case got.e == api.ErrSyntax && !isWordPlace(s, got.at):
		t.Errorf("P15.4: %s: no word begins at %d", short(s), got.at)
	}
}

// isWordPlace tells whether a place is that of a word or of the end.
func isWordPlace(s string, at int) bool {
	words, _, _ := word.Cut(s)
	for _, w := range words {
		if w.At == at {
			return true
		}
	}
	return at == len(s)
}

func checkMayLine(t *testing.T, s string, l api.Line, got answer) {
	t.Helper()
	if got.e != api.OK && l.Kind != 0 || (l.Kind == 1 || l.Kind == 2 || l.Kind == 3) == (told(got.t) == told(api.Term{})) {
		t.Errorf("P15.4: Line(%s): kind %d, %s", short(s), l.Kind, short(got.told()))
	}
	switch {
	case l.Kind == 1 || l.Kind == 2:
		checkMay(t, s, got, api.ClassNoun)
	case l.Kind == 3:
		checkMay(t, s, got, api.ClassVerb)
	case l.Kind == 0 && got.e != api.OK && !strings.HasPrefix(strings.TrimLeft(s, " "), ")"):
		checkMay(t, s, got, 0)
	}
}

// vocabulary is words of every kind, those twice that are seldom met where they may stand.
func vocabulary() []string {
	return strings.Split("1 2 _3 _ 0 y x a b2 Mean A + - * i. e. [ ] / \\ \\. ~ @ @: @. & &: &. &.: .. :: :. : ^: \" ` =. =: [: if. do. else. end. while. pick. or. {{)m {{)d }} ( ) ; ( ) ( ) y y 1 + + - ; [: {{)m {{)d }} do. end. end. pick. a A ` @. & \" a =. if. y do. end.", " ")
}

// TestAnyWords: words in any order.
func TestAnyWords(t *testing.T) {
	t.Parallel()
	var d dice
	words := vocabulary()
	for range 60000 {
		var s strings.Builder
		for range d.throw(12) {
			s.WriteString(words[d.throw(len(words))] + strings.Repeat(" ", 1+d.throw(2)))
		}
		checkAny(t, s.String())
	}
}

// TestAllShort: all texts of up to three words, and of four of some.
func TestAllShort(t *testing.T) {
	t.Parallel()
	words := strings.Split("1 _ y Mean + / @ @. & \" ^: ` =. =: [: if. do. else. end. while. pick. or. {{)m }} ( ) ;", " ")
	for _, a := range words {
		checkAny(t, a)
		for _, b := range words {
			checkAny(t, a+" "+b)
			for _, c := range words {
				checkAny(t, a+" "+b+" "+c)
			}
		}
	}
	some := strings.Split("1 y + / @. & ` [: ( ) =.", " ")
	var all func(ahead string, more int)
	all = func(ahead string, more int) {
		if more == 0 {
			checkAny(t, ahead)
			return
		}
		for _, w := range some {
			all(ahead+w+" ", more-1)
		}
	}
	all("", 4)
	all("( + ` ", 3)
	all("( + ", 3)
	all("{{)m ", 3)
	all("y + ", 3)
}

// someTexts are texts of terms of all kinds.
func someTexts(n int) []string {
	var d thrower
	out := []string{"+/ % #", "{{)m if. y do. a =. 1 2; while. - y do. y end.; b else. pick. y do. 1 or. (- 2) end. end. }}", "(+`-&1`(+ *)@:%)@.(*/\\\"0 _) y", "a =: 2 + 3 * (4 - y)", "Mean =: +/ % #", ")show Mean", "[: ([: + -) 5\"_ .. -", `(1 2&+ -^:2 ^:_1) "1 _ 2`}
	for len(out) < n {
		a := d.thrown()
		s, e := print.Noun(a)
		if term.Class(a) == api.ClassVerb {
			s, e = print.Verb(a)
		}
		if e == api.OK && len(s) < 400 {
			out = append(out, s)
		}
	}
	return out
}

// TestCutOff: texts cut off at each place, at both ends.
func TestCutOff(t *testing.T) {
	t.Parallel()
	for _, s := range someTexts(150) {
		for at := range len(s) + 1 {
			checkAny(t, s[:at])
			checkAny(t, s[at:])
		}
	}
}

// spoilt is a text with some words left out, put in, doubled or exchanged.
func (d *dice) spoilt(s string) string {
	words := strings.Fields(s)
	more := vocabulary()
	for range 1 + d.throw(3) {
		at := d.throw(len(words) + 1)
		switch kind := d.throw(4); {
		case kind == 0 || at == len(words):
			words = append(words[:at:at], append([]string{more[d.throw(len(more))]}, words[at:]...)...)
		case kind == 1:
			words = append(words[:at:at], words[at+1:]...)
		case kind == 2:
			words[at] = more[d.throw(len(more))]
		default:
			other := d.throw(len(words))
			words[at], words[other] = words[other], words[at]
		}
	}
	return strings.Join(words, strings.Repeat(" ", 1+d.throw(2)))
}

// TestSpoilt: texts of terms in which a few words are wrong. Between each two words stands a blank first.
func TestSpoilt(t *testing.T) {
	t.Parallel()
	var d dice
	faults := map[api.Errno]int{}
	for range 40 {
		for _, s := range someTexts(600) {
			words, _, e := word.Cut(s)
			if e != api.OK {
				t.Fatalf("the test itself: %s", s)
			}
			var apart []string
			for _, w := range words {
				apart = append(apart, w.Text)
			}
			text := d.spoilt(strings.Join(apart, " "))
			checkAny(t, text)
			faults[verbOf(text).e]++
		}
	}
	for _, e := range []api.Errno{api.OK, api.ErrKind, api.ErrSyntax, api.ErrTerm} {
		if faults[e] < 20 {
			t.Errorf("the test itself: %v is told %d times", e, faults[e])
		}
	}
}

// TestAnyBytes: texts of any bytes, and of those that words are made of.
func TestAnyBytes(t *testing.T) {
	t.Parallel()
	var d dice
	for b := range 256 {
		for _, s := range []string{string([]byte{byte(b)}), string([]byte{byte(b), byte(b)}), "y" + string([]byte{byte(b)}), "+" + string([]byte{byte(b)}) + "y", ")" + string([]byte{byte(b)}), "a =: " + string([]byte{byte(b)}) + " 3"} {
			checkAny(t, s)
		}
	}
	near := "   ()()+-*/\\~@&:.\"`^_1205yxaAM;[]{}={{)m}}"
	for range 60000 {
		bytes := make([]byte, d.throw(24))
		for i := range bytes {
			bytes[i] = near[d.throw(len(near))]
			if d.throw(100) == 0 {
				bytes[i] = byte(d.throw(256))
			}
		}
		checkAny(t, string(bytes))
	}
	for range 5000 {
		bytes := make([]byte, d.throw(300))
		for i := range bytes {
			bytes[i] = byte(d.throw(256))
		}
		checkAny(t, string(bytes))
	}
}

// FuzzAny: go test -fuzz=FuzzAny goes on with texts of its own.
func FuzzAny(f *testing.F) {
	for _, s := range someTexts(50) {
		f.Add(s)
	}
	f.Fuzz(func(t *testing.T, s string) {
		if len(s) < 10000 {
			checkAny(t, s)
		}
	})
}
