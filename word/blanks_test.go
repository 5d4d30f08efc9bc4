package word

import (
	"slices"
	"strings"
	"testing"

	"abacus/api"
)

// withoutPlaces are the words as if all stood at 0, and their texts.
func withoutPlaces(words []api.Word) ([]api.Word, []string) {
	var bare []api.Word
	var texts []string
	for _, w := range words {
		bare = append(bare, api.Word{Kind: w.Kind, Text: w.Text})
		texts = append(texts, w.Text)
	}
	return bare, texts
}

// checkBlanks holds a line's words against those of their texts with a blank between each two, and tells whether it is cut at all.
func checkBlanks(t *testing.T, line string) bool {
	t.Helper()
	words, _, e := Cut(line)
	if e != api.OK {
		return false
	}
	want, texts := withoutPlaces(words)
	again := strings.Join(texts, " ")
	words, place, e := Cut(again)
	if got, _ := withoutPlaces(words); !slices.Equal(got, want) || place != 0 || e != api.OK {
		t.Errorf("P12.2: Cut(%s), of %s: %q, %d, %v; wanted %q", short(again), short(line), told(words), place, e, told(want))
	}
	at := 0
	for _, w := range words {
		if w.At != at {
			t.Errorf("P12.1: Cut(%s): %q", short(again), told(words))
		}
		at += len(w.Text) + 1
	}
	return true
}

// TestBlanks: lines of all kinds; all of these are cut.
func TestBlanks(t *testing.T) {
	for _, line := range []string{
		"", "   ", "NB. x", "5 NB. five", "Mean =: +/ % #", `1  _2 3&+"0 _ y`, "{{)m if. y do. 1 else. 2 end. }}", "+/ ..*~.~:", ")names", ")a5", " )a", ")5", "))a", "(x)",
		"1   2     _", "x_1", "x_", "_+_", "i.e.I.", "i...", "i.:", "if.do.x", "{{)mx{{)dy}}}}", "{ {", "{.{:{ {[:[", "}}}.", "}}:", "(:;:):", `/:\:\.\`, "a&.:b^:c:.d::e", "a=.b=:c=d", "~~.~:~", "1..2", "1:2", "NB:x",
		"while. x do. x =. x - 1; y end.", "pick. s do. a or. b end.", "(+`-)@.(0&<)", `u"1 _2`, "_9223372036854775808 9223372036854775807",
		strings.Repeat("a", 32) + "+" + strings.Repeat("Z", 32), strings.Repeat("+", 1<<19), strings.Repeat("1   ", 1<<18), strings.Repeat("x_1+", 1<<17),
	} {
		if !checkBlanks(t, line) {
			t.Errorf("P12.1: Cut(%s) is not OK", short(line))
		}
	}
}

// TestManyBlanks: each two words beside one another, with a blank and without; lines that are thrown; all short ones of some bytes.
func TestManyBlanks(t *testing.T) {
	words, wrong, good := goodWords(), badWords(), 0
	check := func(line string) {
		if checkBlanks(t, line) {
			good++
		}
	}
	for _, a := range words {
		for _, b := range words {
			check(a + b)
			check(a + " " + b)
			check(" " + a + b + " ")
		}
	}
	var d dice
	for range 10000 {
		check(d.line(words, wrong))
	}
	texts(" _0a.:{)+", 4, check)
	if good < 20000 {
		t.Errorf("the test itself: %d lines are cut", good)
	}
}
