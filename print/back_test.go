package print

import (
	"slices"
	"strconv"
	"strings"
	"testing"

	"abacus/api"
	"abacus/word"
)

// reader reads a text that has no fault, by the rules of doc/15-parse.md: one text is one term just if that gives back what was written.
type reader struct {
	words []api.Word
	at    int
}

// readBack gives the term of which a text is.
func readBack(t *testing.T, s string) api.Term {
	t.Helper()
	words, _, e := word.Cut(s)
	if e != api.OK {
		t.Fatalf("P14.3: %s: words: %v", short(s), e)
	}
	r := reader{words: words}
	defer func() {
		if told := recover(); told != nil {
			t.Fatalf("P14.3: %s can't be read back behind word %d: %v", short(s), r.at, told)
		}
	}()
	out := r.phrase()
	if r.at < len(words) {
		panic("words behind it")
	}
	return out
}

// next tells the text of the word that is next; empty at the end.
func (r *reader) next() string {
	if r.at == len(r.words) {
		return ""
	}
	return r.words[r.at].Text
}

// take takes the next word, and gives it.
func (r *reader) take() api.Word {
	r.at++
	return r.words[r.at-1]
}

// skip takes the next word, if it is one of these.
func (r *reader) skip(texts ...string) bool {
	if !slices.Contains(texts, r.next()) {
		return false
	}
	r.at++
	return true
}

func (r *reader) must(text string) {
	if !r.skip(text) {
		panic("no " + text)
	}
}

func isNoun(t api.Term) bool { return t.Kind > 0 && t.Kind <= api.KPick }

// ring is what [: stands as until its train is put together, gerund what brackets with the byte 96 are.
const (
	ring   = -1
	gerund = -2
)

func numbers(text string) []int64 {
	var out []int64
	for _, field := range strings.Fields(text) {
		n, err := strconv.ParseInt(strings.Replace(field, "_", "-", 1), 10, 64)
		if field == "_" {
			n, err = 64, nil
		}
		if err != nil {
			panic(err)
		}
		out = append(out, n)
	}
	return out
}

func (r *reader) primary() api.Term {
	switch w := r.take(); {
	case w.Kind == 1 && !slices.Contains(strings.Fields(w.Text), "_"):
		return num(numbers(w.Text)...)
	case w.Kind == 2:
		return noun(w.Text)
	case w.Kind == 3:
		return verb(w.Text)
	case w.Kind == 4:
		return prim(w.Text)
	case w.Text == "(":
		return r.bracket()
	case w.Text == "{{)m", w.Text == "{{)d":
		t := api.Term{Kind: api.VDef, N: strings.Index("md", w.Text[3:]) + 1, Kids: []api.Term{r.body()}}
		r.must("}}")
		return t
	case w.Text == "pick.":
		t := of(api.KPick, r.phrase())
		r.must("do.")
		for more := true; more; more = r.skip("or.") {
			t.Kids = append(t.Kids, r.phrase())
		}
		r.must("end.")
		return t
	}
	panic("no primary")
}

// bracket reads what stands behind a bracket, a phrase or a gerund.
func (r *reader) bracket() api.Term {
	units := []api.Term{r.unit()}
	if r.next() == "`" {
		for r.skip("`") {
			units = append(units, r.unit())
		}
		r.must(")")
		return of(gerund, units...)
	}
	t := r.rest(units)
	r.must(")")
	return t
}

func (r *reader) unit() api.Term {
	if r.skip("[:") {
		return of(ring)
	}
	t := r.primary()
	for r.at < len(r.words) && (r.words[r.at].Kind == 5 || r.words[r.at].Kind == 6 && r.next() != "`") {
		if w := r.take(); w.Kind == 5 {
			t = of(map[string]int{"/": api.VInsert, `\`: api.VPrefix, `\.`: api.VSuffix, "~": api.VSwap}[w.Text], t)
		} else {
			t = r.joined(t, w.Text)
		}
	}
	return t
}

// joined is what a conjunction makes of what there is and what stands behind it.
func (r *reader) joined(left api.Term, sign string) api.Term {
	if sign == `"` {
		ranks := r.take()
		if isNoun(left) && ranks.Text == "_" {
			return of(api.VConst, left)
		}
		if ranks.Kind != 1 {
			panic("no ranks")
		}
		return ranked(left, numbers(ranks.Text)...)
	}
	right := r.primary()
	kind := map[string]int{"@": api.VAtop, "@:": api.VAt, "&": api.VComp, "&:": api.VApp, "&.": api.VUnder, "&.:": api.VUnderAll, "..": api.VDot, "::": api.VAdverse, ":.": api.VObv, ":": api.VBoth, "^:": api.VPowV}[sign]
	switch {
	case sign == "@." && left.Kind == gerund:
		return of(api.VAgenda, append([]api.Term{right}, left.Kids...)...)
	case sign == "@.":
		return of(api.VAgenda, right, left)
	case sign == "&" && isNoun(left):
		kind = api.VBondL
	case sign == "&" && isNoun(right):
		kind = api.VBondR
	case sign == "^:" && isNoun(right):
		kind = api.VPow
	}
	return of(kind, left, right)
}

func (r *reader) phrase() api.Term { return r.rest(nil) }

// rest reads the rest of a phrase, and puts it together with the units ahead.
func (r *reader) rest(units []api.Term) api.Term {
	for r.at < len(r.words) && (r.words[r.at].Kind <= 4 || slices.Contains([]string{"(", "{{)m", "{{)d", "pick.", "[:"}, r.next())) {
		units = append(units, r.unit())
	}
	last := len(units) - 1
	there := units[last]
	units = units[:last]
	take := func() api.Term {
		last := len(units) - 1
		t := units[last]
		units = units[:last]
		return t
	}
	if isNoun(there) {
		for len(units) > 0 {
			v := take()
			if len(units) > 0 && isNoun(units[len(units)-1]) {
				there = dy(v, take(), there)
			} else {
				there = mon(v, there)
			}
		}
		return there
	}
	for len(units) > 1 {
		v := take()
		if u := take(); u.Kind == ring {
			there = of(api.VCap, v, there)
		} else {
			there = of(api.VFork, u, v, there)
		}
	}
	if len(units) > 0 {
		there = of(api.VHook, take(), there)
	}
	return there
}

func (r *reader) body() api.Term {
	t := body()
	if slices.Contains([]string{"}}", "else.", "end."}, r.next()) {
		return t
	}
	for more := true; more; more = r.skip(";") {
		t.Kids = append(t.Kids, r.sentence())
	}
	return t
}

func (r *reader) sentence() api.Term {
	if r.at+1 < len(r.words) && r.words[r.at+1].Text == "=." {
		name := r.take().Text
		r.must("=.")
		return set(name, r.phrase())
	}
	kind := map[string]int{"if.": api.SIf, "while.": api.SWhile}[r.next()]
	if kind == 0 {
		return say(r.phrase())
	}
	r.at++
	t := of(kind, r.phrase())
	r.must("do.")
	t.Kids = append(t.Kids, r.body())
	if kind == api.SIf {
		r.must("else.")
		t.Kids = append(t.Kids, r.body())
	}
	r.must("end.")
	return t
}
