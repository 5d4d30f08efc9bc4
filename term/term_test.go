package term

import (
	"testing"

	"abacus/api"
)

// TestExamples: all of the chapter's.
func TestExamples(t *testing.T) {
	y, x := noun("y"), noun("x")
	mean := of(api.VFork, of(api.VInsert, sign("+")), sign("%"), sign("#"))
	checkSize(t, "+", sign("+"), 1, 1)
	checkSize(t, "(+/ % #)", mean, 5, 3)
	checkSize(t, "{{)m y }}", def(1, say(y)), 4, 4)
	checkSize(t, "256 nodes", deep(256), 256, 256)
	checkSize(t, "257 nodes", deep(257), 4097, 257)

	checkMay(t, sign("+"), api.ClassNoun, api.ErrKind)
	checkMay(t, sign("+"), api.ClassVerb, api.OK)
	checkMay(t, sign("+"), 0, api.ErrArg)
	checkMay(t, of(api.VInsert), api.ClassVerb, api.ErrTerm)
	checkMay(t, sign("++"), api.ClassVerb, api.ErrTerm)
	checkMay(t, api.Term{Kind: api.VPrim, Text: "+", N: 1}, api.ClassVerb, api.ErrTerm)
	checkMay(t, num(lengths(1), 5), api.ClassNoun, api.ErrTerm)
	checkMay(t, num(lengths(2), 5, 6), api.ClassNoun, api.OK)
	checkMay(t, num(nil, 5), api.ClassNoun, api.OK)
	checkMay(t, def(1, say(x)), api.ClassVerb, api.ErrTerm)
	checkMay(t, def(2, say(x)), api.ClassVerb, api.OK)
	checkMay(t, def(1, say(of(api.KMon, def(2, say(x)), y))), api.ClassVerb, api.OK)
	checkMay(t, def(1, say(of(api.KDy, def(2, say(x)), y, y))), api.ClassVerb, api.OK)
	checkMay(t, of(api.VConst, x), api.ClassVerb, api.ErrTerm)
	checkMay(t, of(api.VConst, noun("a")), api.ClassVerb, api.OK)

	checkNames(t, def(1, set("a", of(api.KMon, verb("Mean"), y))), "Mean", "a", "y")
	checkSame(t, sign("+"), sign("+"), true)
	checkSame(t, deep(300), deep(300), false)
}

// thrown throws a term of a class, most of the time as the table has it, at most so deep.
func (d *dice) thrown(class, depth int) api.Term {
	if d.throw(60) == 0 {
		kids := someKids()
		return kids[d.throw(len(kids))]
	}
	if d.throw(100) == 0 {
		class = 1 + d.throw(3)
	}
	u := func() api.Term { return d.thrown(api.ClassVerb, depth-1) }
	n := func() api.Term { return d.thrown(api.ClassNoun, depth-1) }
	switch {
	case class == api.ClassNoun && (depth <= 1 || d.throw(3) == 0):
		return []api.Term{noun("x"), noun("y"), noun("y"), noun("a"), noun("b"), num(nil, 5), list(2 + d.throw(4))}[d.throw(7)]
	case class == api.ClassNoun:
		return []func() api.Term{
			func() api.Term { return of(api.KMon, u(), n()) },
			func() api.Term { return of(api.KDy, u(), n(), n()) },
			func() api.Term { return of(api.KPick, n(), n(), n()) },
		}[d.throw(3)]()
	case class == api.ClassSentence:
		return d.sentence(depth)
	case depth <= 1 || d.throw(3) == 0:
		return []api.Term{sign("+"), sign("-"), sign("i."), verb("A"), verb("Mean"), of(api.VConst, noun("a"))}[d.throw(6)]
	}
	switch d.throw(7) {
	case 0:
		return of(api.VInsert+d.throw(4), u())
	case 1:
		return of(api.VAtop+d.throw(11), u(), u())
	case 2:
		return []api.Term{of(api.VBondL, n(), u()), of(api.VBondR, u(), n()), of(api.VPow, u(), num(nil, 2)), ranked(u(), int64(d.throw(20)-9), 1)}[d.throw(4)]
	case 3:
		return of(api.VAgenda, u(), u())
	case 4:
		return of(api.VFork, u(), u(), u())
	}
	return def(1+d.throw(2), d.sentence(depth-2), d.sentence(depth-2))
}

func (d *dice) sentence(depth int) api.Term {
	n := d.thrown(api.ClassNoun, depth-1)
	if depth <= 1 {
		return say(n)
	}
	switch d.throw(6) {
	case 0:
		return set([]string{"x", "y", "a", "b"}[d.throw(4)], n)
	case 1:
		return of(api.SIf, n, body(d.sentence(depth-2)), body())
	case 2:
		return of(api.SWhile, n, body(d.sentence(depth-2), d.sentence(depth-2)))
	}
	return say(n)
}

// TestThrown: terms of all kinds, good ones and such as are wrong somewhere, at every call.
func TestThrown(t *testing.T) {
	var d dice
	good, wrong := 0, 0
	for range 20000 {
		a := d.thrown(1+d.throw(3), 1+d.throw(7))
		if len(places(&a)) > 4096 {
			continue
		}
		if checkAgainstTable(t, a) {
			good++
		} else {
			wrong++
		}
		checkNames(t, a, wantedNames(a)...)
		checkSame(t, a, clone(a), true)
		b := d.thrown(Class(a), 3)
		checkSame(t, a, b, wantedText(a) == wantedText(b))
		if got, e := Copy(a); e != api.OK || wantedText(got) != wantedText(a) {
			t.Errorf("P13.7: Copy(%s): %s, %v", brief(a), brief(got), e)
		}
	}
	if good < 3000 || wrong < 3000 {
		t.Errorf("the test itself: %d terms that may be, %d that may not", good, wrong)
	}
}
