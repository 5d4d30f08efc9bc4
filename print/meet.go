package print

import "abacus/api"

// begins tells whether the text of a verb or a noun begins with a number.
func begins(t api.Term) bool {
	switch t.Kind {
	case api.KNum:
		return true
	case api.KMon:
		return begins(t.Kids[0]) && !numbersMeet(t)
	case api.KDy:
		return t.Kids[1].Kind == api.KNum
	case api.VAgenda:
		return len(t.Kids) == 2 && begins(t.Kids[1])
	}
	return sign(t.Kind) != "" && begins(t.Kids[0])
}

// ends tells whether a verb's phrase ends with a number.
func ends(t api.Term) bool {
	switch t.Kind {
	case api.VConst, api.VRank:
		return true
	case api.VBondR, api.VPow:
		return t.Kids[1].Kind == api.KNum
	}
	return false
}

// numbersMeet tells whether, in a KMon or a KDy, a number of the verb would stand beside one of a noun: they would be read as one list.
func numbersMeet(t api.Term) bool {
	verb, right := t.Kids[0], t.Kids[len(t.Kids)-1]
	if ends(verb) && begins(right) {
		return true
	}
	return t.Kind == api.KDy && t.Kids[1].Kind == api.KNum && begins(verb)
}
