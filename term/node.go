package term

import (
	"slices"

	"abacus/api"
	"abacus/prim"
)

// allFit tells whether all nodes of a term that is not too great are as they should be.
func allFit(t api.Term) bool {
	isPrimitive := primitives()
	// hasX: there may be an x here, as everywhere but in a definition of one argument.
	var fits func(t api.Term, hasX bool) bool
	fits = func(t api.Term, hasX bool) bool {
		if !textFits(t, isPrimitive) || !numberFits(t) || !arrayFits(t) || !kidsFit(t) {
			return false
		}
		if !hasX && speaksOfX(t) {
			return false
		}
		if t.Kind == api.VDef {
			hasX = t.N == 2
		}
		return !slices.ContainsFunc(t.Kids, func(kid api.Term) bool { return !fits(kid, hasX) })
	}
	return fits(t, true)
}

// primitives gives a function that tells whether a text is a primitive's. It keeps what it has found: prim.Of makes its catalogue anew each time.
func primitives() func(text string) bool {
	found := map[string]int{}
	return func(text string) bool {
		if _, has := found[text]; has {
			return true
		}
		op, has := prim.Of(text)
		if has {
			found[text] = op
		}
		return has
	}
}

func textFits(t api.Term, isPrimitive func(string) bool) bool {
	switch t.Kind {
	case api.KName, api.SSet:
		return isName(t.Text, isSmall)
	case api.VName:
		return isName(t.Text, isCapital)
	case api.VPrim:
		return isPrimitive(t.Text)
	}
	return t.Text == ""
}

func numberFits(t api.Term) bool {
	if t.Kind == api.VDef {
		return t.N == 1 || t.N == 2
	}
	return t.N == 0
}

func arrayFits(t api.Term) bool {
	switch t.Kind {
	case api.KNum:
		return isScalar(t.Num) || isList(t.Num, 2, api.MaxList)
	case api.VRank:
		return isList(t.Num, 1, 3) && !slices.ContainsFunc(t.Num.Atoms, isNoRank)
	}
	return len(t.Num.Shape) == 0 && len(t.Num.Atoms) == 0
}

// kidsFit tells of a kind that there is not that no kids fit.
func kidsFit(t api.Term) bool {
	switch t.Kind {
	case api.KNum, api.KName, api.VPrim, api.VName:
		return kidsAre(t.Kids)
	case api.KMon:
		return kidsAre(t.Kids, isVerb, isNoun)
	case api.KDy:
		return kidsAre(t.Kids, isVerb, isNoun, isNoun)
	case api.KPick:
		return areArms(t.Kids, isNoun)
	case api.SSay, api.SSet:
		return kidsAre(t.Kids, isNoun)
	case api.SIf:
		return kidsAre(t.Kids, isNoun, isBody, isBody)
	case api.SWhile:
		return kidsAre(t.Kids, isNoun, isBody)
	case api.SBody:
		return areAll(t.Kids, isInBody)
	case api.VConst:
		return kidsAre(t.Kids, isOperand)
	case api.VDef:
		return kidsAre(t.Kids, isBody)
	case api.VInsert, api.VPrefix, api.VSuffix, api.VSwap, api.VRank:
		return kidsAre(t.Kids, isVerb)
	case api.VAtop, api.VAt, api.VComp, api.VApp, api.VUnder, api.VUnderAll, api.VDot,
		api.VAdverse, api.VObv, api.VBoth, api.VPowV, api.VHook, api.VCap:
		return kidsAre(t.Kids, isVerb, isVerb)
	case api.VBondL:
		return kidsAre(t.Kids, isOperand, isVerb)
	case api.VBondR, api.VPow:
		return kidsAre(t.Kids, isVerb, isOperand)
	case api.VAgenda:
		return areArms(t.Kids, isVerb)
	case api.VFork:
		return kidsAre(t.Kids, isVerb, isVerb, isVerb)
	}
	return false
}

// kidsAre tells whether there are just as many kids as wanted, each as its own is.
func kidsAre(kids []api.Term, wanted ...func(api.Term) bool) bool {
	return slices.EqualFunc(kids, wanted, func(kid api.Term, is func(api.Term) bool) bool { return is(kid) })
}

func areAll(kids []api.Term, is func(api.Term) bool) bool {
	return !slices.ContainsFunc(kids, func(kid api.Term) bool { return !is(kid) })
}

// areArms tells whether kids are a selector and its branches.
func areArms(kids []api.Term, is func(api.Term) bool) bool {
	return len(kids) >= 2 && len(kids) <= 1+api.MaxArms && areAll(kids, is)
}

func isNoun(t api.Term) bool   { return Class(t) == api.ClassNoun }
func isVerb(t api.Term) bool   { return Class(t) == api.ClassVerb }
func isBody(t api.Term) bool   { return t.Kind == api.SBody }
func isInBody(t api.Term) bool { return Class(t) == api.ClassSentence && !isBody(t) }

func isOperand(t api.Term) bool {
	return t.Kind == api.KNum || t.Kind == api.KName && t.Text != "x" && t.Text != "y"
}

func speaksOfX(t api.Term) bool {
	return (t.Kind == api.KName || t.Kind == api.SSet) && t.Text == "x"
}

func isScalar(a api.Array) bool { return len(a.Shape) == 0 && len(a.Atoms) == 1 }

func isList(a api.Array, least, most int) bool {
	n := len(a.Atoms)
	return len(a.Shape) == 1 && a.Shape[0] == n && n >= least && n <= most
}

func isNoRank(n int64) bool { return (n < -api.MaxRank || n > api.MaxRank) && n != api.Inf }

func isName(text string, begins func(byte) bool) bool {
	if text == "" || len(text) > api.MaxName || !begins(text[0]) {
		return false
	}
	for i := range len(text) {
		if !isOfName(text[i]) {
			return false
		}
	}
	return true
}

func isSmall(b byte) bool   { return b >= 'a' && b <= 'z' }
func isCapital(b byte) bool { return b >= 'A' && b <= 'Z' }
func isOfName(b byte) bool  { return isSmall(b) || isCapital(b) || b >= '0' && b <= '9' }
