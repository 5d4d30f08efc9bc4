package parse

import (
	"slices"

	"abacus/api"
)

// units are units beside one another. They are put together from the last one on.
type units []unit

// pop takes the last unit, and gives it.
func (us *units) pop() unit {
	last := len(*us) - 1
	u := (*us)[last]
	*us = (*us)[:last]
	return u
}

// endInNoun tells whether there is a last unit, and it is a noun.
func (us units) endInNoun() bool { return len(us) > 0 && isNoun(us[len(us)-1].Term) }

// units reads units, one at least, as many as stand here.
func (r *reader) units() units {
	us := units{r.unit()}
	for r.beginsUnit() {
		us = append(us, r.unit())
	}
	return us
}

// phrase reads a phrase.
func (r *reader) phrase() api.Term { return r.whole(r.units()) }

// nounPhrase reads a phrase that must be a noun.
func (r *reader) nounPhrase() api.Term {
	first := r.word()
	t := r.phrase()
	if !isNoun(t) {
		panic(fault{api.ErrKind, first.At})
	}
	return t
}

// whole puts a phrase together that has ended.
func (r *reader) whole(us units) api.Term {
	if us.endInNoun() {
		return applied(us)
	}
	if slices.ContainsFunc(us, func(u unit) bool { return isNoun(u.Term) }) {
		panic(misplaced(r.word()))
	}
	return train(us)
}

// applied puts a phrase together whose last unit is a noun.
func applied(us units) api.Term {
	there := us.pop().Term
	for len(us) > 0 {
		verb := us.pop().verb()
		if us.endInNoun() {
			there = of(api.KDy, verb, us.pop().Term, there)
		} else {
			there = of(api.KMon, verb, there)
		}
	}
	return there
}

// train puts a phrase together in which there is no noun.
func train(us units) api.Term {
	there := us.pop().verb()
	for len(us) > 1 {
		v := us.pop().verb()
		if u := us.pop(); u.Kind == ring {
			there = of(api.VCap, v, there)
		} else {
			there = of(api.VFork, u.Term, v, there)
		}
	}
	if len(us) > 0 {
		there = of(api.VHook, us.pop().verb(), there)
	}
	return there
}
