package print

import (
	"strconv"

	"abacus/api"
)

// verb writes a verb's phrase.
func (w *writer) verb(t api.Term) {
	switch t.Kind {
	case api.VPrim, api.VName:
		w.put(t.Text)
	case api.VDef:
		w.put(opening(t.N), " ")
		w.body(t.Kids[0])
		w.put("}}")
	case api.VRank:
		w.verb(t.Kids[0])
		w.put(sign(t.Kind))
		w.numbers(t.Num.Atoms, rank)
	case api.VAgenda:
		w.branches(t.Kids[1:])
		w.put("@.")
		w.closed(t.Kids[0])
	case api.VHook, api.VFork, api.VCap:
		w.train(t)
	default:
		w.term(t.Kids[0])
		w.put(sign(t.Kind))
		if len(t.Kids) > 1 {
			w.closed(t.Kids[1])
		}
	}
}

// sign tells what stands behind the first kid's text, in the phrase of a kind that begins with that; empty of the other kinds.
func sign(kind int) string {
	switch kind {
	case api.VConst:
		return `"_`
	case api.VInsert:
		return "/"
	case api.VPrefix:
		return `\`
	case api.VSuffix:
		return `\.`
	case api.VSwap:
		return "~"
	case api.VAtop:
		return "@"
	case api.VAt:
		return "@:"
	case api.VComp, api.VBondL, api.VBondR:
		return "&"
	case api.VApp:
		return "&:"
	case api.VUnder:
		return "&."
	case api.VUnderAll:
		return "&.:"
	case api.VPow, api.VPowV:
		return "^:"
	case api.VRank:
		return `"`
	}
	return spacedSign(kind)
}

// spacedSign tells the signs that need their blanks: without them they would run together with the dots and colons of what stands ahead.
func spacedSign(kind int) string {
	switch kind {
	case api.VDot:
		return " .. "
	case api.VAdverse:
		return " :: "
	case api.VObv:
		return " :. "
	case api.VBoth:
		return " : "
	}
	return ""
}

// opening tells how a definition of that many arguments begins.
func opening(n int) string {
	if n == 1 {
		return "{{)m"
	}
	return "{{)d"
}

// closed writes what stands behind a conjunction: an operand, or a verb's phrase that holds together without brackets, as it is.
func (w *writer) closed(t api.Term) {
	switch t.Kind {
	case api.KNum, api.KName, api.VPrim, api.VName, api.VDef, api.VHook, api.VFork, api.VCap:
		w.term(t)
	default:
		w.bracketed(t, true)
	}
}

// branches writes the branches of an agenda.
func (w *writer) branches(verbs []api.Term) {
	if len(verbs) == 1 {
		w.verb(verbs[0])
		return
	}
	w.put("(")
	w.list(verbs, "`")
	w.put(")")
}

// train writes a train: numbers of two verbs beside one another would be read as one list.
func (w *writer) train(t api.Term) {
	w.put("(")
	if t.Kind == api.VCap {
		w.put("[: ")
	}
	for i, verb := range t.Kids {
		if i > 0 {
			w.put(" ")
		}
		w.bracketed(verb, i > 0 && ends(t.Kids[i-1]) && begins(verb))
	}
	w.put(")")
}

// number gives a number as text, with _ for the sign.
func number(n int64) string {
	text := strconv.FormatInt(n, 10)
	if n < 0 {
		return "_" + text[1:]
	}
	return text
}

// rank gives a rank as text.
func rank(n int64) string {
	if n == api.Inf {
		return "_"
	}
	return number(n)
}
