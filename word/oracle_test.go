package word

import (
	"fmt"
	"math/big"
	"regexp"
	"slices"
	"strconv"
	"strings"
	"testing"

	"abacus/api"
)

// told tells words each as one text: Kind, At, Text.
func told(words []api.Word) []string {
	var out []string
	for _, w := range words {
		out = append(out, fmt.Sprintf("%d %d %s", w.Kind, w.At, w.Text))
	}
	return out
}

// short is a text as a test may tell it.
func short(s string) string {
	if len(s) > 80 {
		return fmt.Sprintf("%q.. of %d bytes", s[:80], len(s))
	}
	return strconv.Quote(s)
}

// checkWords holds a line's words, as told tells them, against wanted ones.
func checkWords(t *testing.T, line string, want ...string) {
	t.Helper()
	if words, place, e := Cut(line); !slices.Equal(told(words), want) || place != 0 || e != api.OK {
		t.Errorf("P12.1: Cut(%s): %q, %d, %v; wanted %q", short(line), told(words), place, e, want)
	}
}

// checkRefused holds a line's error against the wanted one: there are no words then.
func checkRefused(t *testing.T, line string, place int, want api.Errno) {
	t.Helper()
	if words, at, e := Cut(line); len(words) != 0 || at != place || e != want {
		t.Errorf("P12.1: Cut(%s): %d words, %d, %v; wanted %d, %v", short(line), len(words), at, e, place, want)
	}
}

// taken finds what the chapter's table takes together at a byte that is no blank, be it a word or not.
var taken = regexp.MustCompile(`^(?s:[0-9_][0-9A-Za-z_]*|[A-Za-z][A-Za-z0-9]*\.?|\{\{\)[md]|\{\{|\}\}|[(;)]|.[.:]*)`)

// kinds are what the words of each kind look like, from Kind 1 on.
var kinds = []*regexp.Regexp{
	whole(`_|0|_?[1-9][0-9]*`),
	whole(`[a-z][A-Za-z0-9]{0,31}`),
	whole(`[A-Z][A-Za-z0-9]{0,31}`),
	whole(`[-+*%|<>=^!#$,{[\]]|[-+*<>][.:]|[,#{}|][.:]|~[.:]|[/\\]:|[ieI]\.`),
	whole(`/|\\|\\\.|~`),
	whole("@|@:|@\\.|&|&:|&\\.|&\\.:|\\.\\.|::|:\\.|:|\\^:|\"|`"),
	whole(`=[.:]|\[:|(if|do|else|end|while|pick|or)\.|\{\{\)[md]|\}\}|[(;)]`),
}

func whole(pattern string) *regexp.Regexp { return regexp.MustCompile(`^(` + pattern + `)$`) }

// remark finds NB., requested a request.
var (
	remark    = regexp.MustCompile(`^NB\.`)
	requested = regexp.MustCompile(`^\)[A-Za-z]+`)
)

// single gives the word, a number by itself, that begins a text without a blank ahead.
func single(rest string) (api.Word, api.Errno) {
	text := taken.FindString(rest)
	for i, pattern := range kinds {
		if pattern.MatchString(text) && (i > 0 || text == "_" || fits(text)) {
			return api.Word{Kind: i + 1, Text: text}, api.OK
		}
	}
	if strings.ContainsAny(text[:1], "0123456789_") {
		return api.Word{}, api.ErrNumber
	}
	return api.Word{}, api.ErrToken
}

// fits tells whether a number is one of 64 bits.
func fits(text string) bool {
	n, ok := new(big.Int).SetString(strings.Replace(text, "_", "-", 1), 10)
	return ok && n.IsInt64()
}

// wantedCut is what P12.1 says of a line: word by word, each number by itself, and then numbers that are neighbours are put together.
func wantedCut(line string) ([]string, int, api.Errno) {
	if len(line) > 1<<20 {
		return nil, 0, api.ErrLong
	}
	var words []api.Word
	for at := 0; at < len(line); {
		if line[at] == ' ' {
			at++
			continue
		}
		if remark.MatchString(line[at:]) {
			break
		}
		w, e := single(line[at:])
		if request := requested.FindString(line); at == 0 && request != "" {
			w, e = api.Word{Kind: 7, Text: request}, api.OK
		}
		if e != api.OK {
			return nil, at, e
		}
		w.At = at
		at += len(w.Text)
		if last := len(words) - 1; last >= 0 && w.Kind == 1 && words[last].Kind == 1 {
			words[last].Text += " " + w.Text
			continue
		}
		words = append(words, w)
	}
	return told(words), 0, api.OK
}

// checkCut holds a line against the chapter's table, and tells whether it is cut into words.
func checkCut(t *testing.T, line string) bool {
	t.Helper()
	want, place, e := wantedCut(line)
	if e == api.OK {
		checkWords(t, line, want...)
	} else {
		checkRefused(t, line, place, e)
	}
	return e == api.OK
}

// texts gives all texts of n bytes of an alphabet, one by one.
func texts(alphabet string, n int, do func(string)) {
	text := make([]byte, n)
	var fill func(int)
	fill = func(at int) {
		if at == n {
			do(string(text))
			return
		}
		for i := range len(alphabet) {
			text[at] = alphabet[i]
			fill(at + 1)
		}
	}
	fill(0)
}

// dice are numbers that look thrown, the same ones each time.
type dice uint64

func (d *dice) throw(n int) int {
	*d = *d*6364136223846793005 + 1442695040888963407
	return int(uint64(*d) >> 33 % uint64(n))
}

// goodWords are words of every kind, by themselves.
func goodWords() []string {
	out := strings.Fields("0 5 _ _1 10 12345 9223372036854775807 _9223372036854775808 x y a b2 total aB9z Mean X I N NB i e if endX")
	out = append(out, strings.Fields("+ - * % | <. >. < > = ~: <: >: +. *. +: *: -. -: ^ ! # $ , ,. ,: { {. }. {: }: |. |: i. e. ~. /: \\: #. #: [ ] I.")...)
	out = append(out, strings.Fields("/ \\ \\. ~ @ @: @. & &: &. &.: .. :: :. : ^: \" `")...)
	out = append(out, strings.Fields("=. =: [: {{)m {{)d }} ( ) ; if. do. else. end. while. pick. or.")...)
	return append(out, strings.Repeat("a", 32), strings.Repeat("Z", 32))
}

// badWords are what is no word wherever a blank stands ahead of it.
func badWords() []string {
	out := strings.Fields("00 007 _0 _a __ 5x 5_ 1_2 9223372036854775808 _9223372036854775809 x. for. i0. nb. Nb. IF. {{ {{) {{)x } ' . .: ... +:: =.. \\.. /. @:. \". `: a.b")
	return append(out, strings.Repeat("a", 33), "\x00", "\t", "\n", "\x1f", "\x7f", "\x80", "\xff", "é")
}

// line throws a line of words, most of them good ones, most with blanks between.
func (d *dice) line(good, bad []string) string {
	var line strings.Builder
	for range d.throw(12) {
		if d.throw(40) == 0 {
			line.WriteString(bad[d.throw(len(bad))])
		} else {
			line.WriteString(good[d.throw(len(good))])
		}
		line.WriteString(strings.Repeat(" ", d.throw(3)))
	}
	return strings.Repeat(" ", max(0, d.throw(5)-3)) + line.String()
}

// place is a place as told tells it.
func place(at int) string { return strconv.Itoa(at) }
