package parse

import "abacus/api"

// join makes one thing of what stands on the two sides of a conjunction, the left one being such as may stand there; false: the right one isn't.
type join func(left, right api.Term) (api.Term, bool)

// joins are the conjunctions, by their spellings.
func joins() map[string]join {
	return map[string]join{
		"@": joinVerbs(api.VAtop), "@:": joinVerbs(api.VAt),
		"&:": joinVerbs(api.VApp), "&.": joinVerbs(api.VUnder), "&.:": joinVerbs(api.VUnderAll),
		"..": joinVerbs(api.VDot), "::": joinVerbs(api.VAdverse), ":.": joinVerbs(api.VObv), ":": joinVerbs(api.VBoth),
		"&": joinBond, "^:": joinPower, `"`: joinRank, "@.": joinAgenda,
	}
}

// mayLead tells whether that may stand to the left of a conjunction.
func mayLead(left api.Term, sign string) bool {
	switch {
	case isVerb(left):
		return true
	case isSimple(left):
		return sign == "&" || sign == `"`
	}
	return left.Kind == gerund && sign == "@."
}

// joinVerbs gives what a conjunction does that makes that kind of any two verbs.
func joinVerbs(kind int) join {
	return func(left, right api.Term) (api.Term, bool) {
		return of(kind, left, right), isVerb(right)
	}
}

func joinBond(left, right api.Term) (api.Term, bool) {
	switch {
	case !isVerb(left):
		return of(api.VBondL, left, right), isVerb(right)
	case isSimple(right):
		return of(api.VBondR, left, right), true
	}
	return of(api.VComp, left, right), isVerb(right)
}

func joinPower(left, right api.Term) (api.Term, bool) {
	if isSimple(right) {
		return of(api.VPow, left, right), true
	}
	return of(api.VPowV, left, right), isVerb(right)
}

func joinRank(left, right api.Term) (api.Term, bool) {
	if isSimple(left) {
		return of(api.VConst, left), right.Text == "_"
	}
	return api.Term{Kind: api.VRank, Num: right.Num, Kids: []api.Term{left}}, true
}

func joinAgenda(left, right api.Term) (api.Term, bool) {
	t := of(api.VAgenda, right)
	if left.Kind == gerund {
		t.Kids = append(t.Kids, left.Kids...)
	} else {
		t.Kids = append(t.Kids, left)
	}
	return t, isVerb(right)
}
