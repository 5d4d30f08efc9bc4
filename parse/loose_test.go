package parse

import (
	"slices"
	"strconv"
	"strings"
	"testing"

	"abacus/api"
	"abacus/term"
)

// loose writes terms in one of the many ways in which they may be written: with brackets that are not needed, trains without those that are not, and any number of blanks.
type loose struct {
	thrower
	words []string
}

func (l *loose) put(words ...string) { l.words = append(l.words, words...) }

// about writes what a function writes, between brackets, if that is needed or is thrown.
func (l *loose) about(needed bool, write func()) {
	times := 0
	if needed || l.throw(6) == 0 {
		times = 1
	}
	for l.throw(8) == 0 {
		times++
	}
	l.put(slices.Repeat([]string{"("}, times)...)
	write()
	l.put(slices.Repeat([]string{")"}, times)...)
}

// number writes numbers; a gap keeps them from those that stand beside them, if it is not a bracket.
func (l *loose) number(numbers []int64, rank bool) {
	for _, n := range numbers {
		s := strings.Replace(strconv.FormatInt(n, 10), "-", "_", 1)
		if rank && n == 64 && l.throw(2) == 0 {
			s = "_"
		}
		l.put(s)
	}
}

// primary writes a term so that it is a primary.
func (l *loose) primary(t api.Term) {
	switch t.Kind {
	case api.KNum, api.KName, api.VPrim, api.VName, api.VDef, api.KPick:
		l.about(false, func() { l.phrase(t) })
	default:
		l.about(true, func() { l.phrase(t) })
	}
}

// unit writes a verb so that it is a unit.
func (l *loose) unit(t api.Term) {
	switch t.Kind {
	case api.VHook, api.VFork, api.VCap:
		l.primary(t)
	default:
		l.about(false, func() { l.phrase(t) })
	}
}

// phrase writes a term so that it is a phrase.
func (l *loose) phrase(t api.Term) {
	kids := t.Kids
	switch t.Kind {
	case api.KNum:
		l.number(t.Num.Atoms, false)
	case api.KName, api.VPrim, api.VName:
		l.put(t.Text)
	case api.KMon:
		l.unit(kids[0])
		l.noun(kids[1])
	case api.KDy:
		l.about(kids[1].Kind == api.KMon || kids[1].Kind == api.KDy, func() { l.phrase(kids[1]) })
		l.unit(kids[0])
		l.noun(kids[2])
	case api.KPick:
		l.put("pick.")
		l.noun(kids[0])
		l.put("do.")
		for i, kid := range kids[1:] {
			if i > 0 {
				l.put("or.")
			}
			l.noun(kid)
		}
		l.put("end.")
	case api.VDef:
		l.put([]string{"{{)m", "{{)d"}[t.N-1])
		l.body(kids[0])
		l.put("}}")
	case api.VRank:
		l.unit(kids[0])
		l.put(`"`)
		l.number(t.Num.Atoms, true)
	case api.VConst:
		l.primary(kids[0])
		l.put(`"`, "_")
	case api.VAgenda:
		l.branches(kids[1:])
		l.put("@.")
		l.primary(kids[0])
	case api.VHook, api.VFork, api.VCap:
		l.train(t)
	default:
		l.joined(t)
	}
}

func (l *loose) joined(t api.Term) {
	for sign, kind := range adverbs() {
		if kind == t.Kind {
			l.unit(t.Kids[0])
			l.put(sign)
			return
		}
	}
	sign := map[int]string{api.VBondL: "&", api.VBondR: "&", api.VPow: "^:"}[t.Kind]
	for s, kind := range ofVerbs() {
		if kind == t.Kind {
			sign = s
		}
	}
	if t.Kind == api.VBondL {
		l.primary(t.Kids[0])
	} else {
		l.unit(t.Kids[0])
	}
	l.put(sign)
	l.primary(t.Kids[1])
}

// noun writes a noun, of which more than one unit may stand here.
func (l *loose) noun(t api.Term) { l.about(false, func() { l.phrase(t) }) }

func (l *loose) branches(verbs []api.Term) {
	if len(verbs) == 1 {
		l.unit(verbs[0])
		return
	}
	l.put("(")
	for i, v := range verbs {
		if i > 0 {
			l.put("`")
		}
		l.unit(v)
	}
	l.put(")")
}

// train writes a train; a fork or a cap that is its last verb needs no brackets.
func (l *loose) train(t api.Term) {
	if t.Kind == api.VCap {
		l.put("[:")
	}
	last := len(t.Kids) - 1
	for _, u := range t.Kids[:last] {
		l.unit(u)
	}
	switch w := t.Kids[last]; {
	case w.Kind == api.VFork || w.Kind == api.VCap:
		l.about(false, func() { l.train(w) })
	case w.Kind == api.VHook:
		l.about(true, func() { l.train(w) })
	default:
		l.unit(w)
	}
}

func (l *loose) body(t api.Term) {
	for i, s := range t.Kids {
		if i > 0 {
			l.put(";")
		}
		switch s.Kind {
		case api.SSay:
			l.noun(s.Kids[0])
		case api.SSet:
			l.put(s.Text, "=.")
			l.noun(s.Kids[0])
		case api.SIf:
			l.put("if.")
			l.noun(s.Kids[0])
			l.put("do.")
			l.body(s.Kids[1])
			if len(s.Kids[2].Kids) > 0 || l.throw(2) == 0 {
				l.put("else.")
				l.body(s.Kids[2])
			}
			l.put("end.")
		case api.SWhile:
			l.put("while.")
			l.noun(s.Kids[0])
			l.put("do.")
			l.body(s.Kids[1])
			l.put("end.")
		}
	}
}

// text gives the words with blanks between them.
func (l *loose) text() string {
	out := strings.Repeat(" ", l.throw(3))
	for _, w := range l.words {
		out += w + strings.Repeat(" ", 1+l.throw(3)*l.throw(2))
	}
	if l.throw(4) == 0 {
		out += "NB. ) 1x"
	}
	return out
}

// numbersMeet tells whether two numbers stand beside one another that do not belong together: such a text is of another term.
func (l *loose) numbersMeet(t api.Term) bool {
	lists := 0
	var count func(t api.Term)
	count = func(t api.Term) {
		if t.Kind == api.KNum || t.Kind == api.VRank || t.Kind == api.VConst {
			lists++
		}
		for _, kid := range t.Kids {
			count(kid)
		}
	}
	count(t)
	runs, within := 0, false
	for _, w := range l.words {
		is := strings.Contains("_0123456789", w[:1])
		if is && !within {
			runs++
		}
		within = is
	}
	return runs != lists
}

// TestLoose: what is written in any way is read as what it was.
func TestLoose(t *testing.T) {
	t.Parallel()
	var l loose
	done := 0
	for range 30000 {
		a := l.thrown()
		l.words = nil
		l.phrase(a)
		if l.numbersMeet(a) {
			continue
		}
		done++
		s, got := l.text(), answer{}
		if term.Class(a) == api.ClassVerb {
			got = verbOf(s)
		} else {
			got = nounOf(s)
		}
		if got.told() != (answer{t: a}).told() {
			t.Fatalf("P15.1: %s is read as %s, not as %s", short(s), short(got.told()), short(told(a)))
		}
	}
	if done < 10000 {
		t.Errorf("the test itself: only %d terms", done)
	}
}
