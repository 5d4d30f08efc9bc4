package parse

import (
	"strings"

	"abacus/api"
)

// unit is a unit, with the place of its first word.
type unit struct {
	api.Term
	at int
}

// verb gives the verb that a unit must be.
func (u unit) verb() api.Term {
	if !isVerb(u.Term) {
		panic(fault{api.ErrSyntax, u.at})
	}
	return u.Term
}

// beginsUnit tells whether a unit begins with the next word.
func (r *reader) beginsUnit() bool {
	switch r.word().Kind {
	case numbers, nounName, verbName, primitive:
		return true
	}
	return r.nextIs("(", "{{)m", "{{)d", "pick.", "[:")
}

// unit reads a unit.
func (r *reader) unit() unit {
	first := r.word()
	if r.skip("[:") {
		return unit{api.Term{Kind: ring}, first.At}
	}
	t := r.primary()
	for {
		switch w := r.word(); {
		case t.Kind == gerund && w.Text != "@.":
			panic(misplaced(w))
		case w.Kind == adverb:
			t = r.changed(t)
		case w.Kind == conjunction && w.Text != "`":
			t = r.joined(t)
		default:
			return unit{t, first.At}
		}
	}
}

// changed reads an adverb, and gives what it makes of what there is.
func (r *reader) changed(t api.Term) api.Term {
	w := r.take()
	if !isVerb(t) {
		panic(misplaced(w))
	}
	kind := api.VInsert
	switch w.Text {
	case `\`:
		kind = api.VPrefix
	case `\.`:
		kind = api.VSuffix
	case "~":
		kind = api.VSwap
	}
	return of(kind, t)
}

// joined reads a conjunction and what stands behind it, and gives what it makes of what there is and that.
func (r *reader) joined(left api.Term) api.Term {
	sign := r.take()
	if !mayLead(left, sign.Text) {
		panic(misplaced(sign))
	}
	first := r.word()
	t, fits := r.joins[sign.Text](left, r.behind(sign.Text))
	if !fits {
		panic(misplaced(first))
	}
	return t
}

// behind reads what stands behind a conjunction.
func (r *reader) behind(sign string) api.Term {
	if sign != `"` {
		return r.primary()
	}
	w := r.word()
	if w.Kind != numbers {
		panic(misplaced(w))
	}
	r.take()
	return api.Term{Kind: ranks, Text: w.Text, Num: listOf(strings.Split(w.Text, " "))}
}
