package print

import (
	"regexp"
	"strconv"
	"strings"

	"abacus/api"
)

// forms are the chapter's rows that are made of kids alone: u the first kid's text, v the second one's, w the third one's, V the second one's closed.
func forms() map[int]string {
	return map[int]string{
		api.VConst: `u"_`, api.VBondL: "u&V", api.VBondR: "u&v", api.VPow: "u^:v",
		api.VInsert: "u/", api.VPrefix: `u\`, api.VSuffix: `u\.`, api.VSwap: "u~",
		api.VAtop: "u@V", api.VAt: "u@:V", api.VComp: "u&V", api.VApp: "u&:V", api.VUnder: "u&.V", api.VUnderAll: "u&.:V", api.VPowV: "u^:V",
		api.VDot: "u .. V", api.VAdverse: "u :: V", api.VObv: "u :. V", api.VBoth: "u : V",
		api.SSay: "u",
	}
}

// numberFirst and numberLast find a number at the ends of a text: whether there is one is looked up in the text itself, not in the term.
var (
	numberFirst = regexp.MustCompile(`^[0-9_]`)
	numberLast  = regexp.MustCompile(`(^|[^A-Za-z0-9])(_|_?[0-9]+)$`)
)

// meet tells whether numbers meet where two texts stand beside one another. No word but a number list has more than 32 bytes, so the last 64 tell the last word's kind.
func meet(left, right string) bool {
	return numberLast.MatchString(left[max(0, len(left)-64):]) && numberFirst.MatchString(right)
}

// apart gives a text, between brackets if numbers would meet.
func apart(left, text, right string) string {
	if meet(left, text) || meet(text, right) {
		return "(" + text + ")"
	}
	return text
}

// wanted is the text that the chapter's tables give of a term that may be.
func wanted(t api.Term) string {
	var kids []string
	for _, kid := range t.Kids {
		kids = append(kids, wanted(kid))
	}
	switch t.Kind {
	case api.VPrim, api.VName, api.KName:
		return t.Text
	case api.KNum:
		return wantedNumbers(t.Num.Atoms, "64")
	case api.VRank:
		return kids[0] + `"` + wantedNumbers(t.Num.Atoms, "_")
	case api.VDef:
		return map[int]string{1: "{{)m ", 2: "{{)d "}[t.N] + kids[0] + "}}"
	case api.VAgenda:
		selector := wantedClosed(t.Kids[0], kids[0])
		if len(kids) == 2 {
			return kids[1] + "@." + selector
		}
		return "(" + strings.Join(kids[1:], "`") + ")@." + selector
	case api.VHook, api.VFork, api.VCap:
		return wantedTrain(t.Kind, kids)
	case api.KMon:
		return apart("", kids[0], kids[1]) + " " + kids[1]
	case api.KDy:
		return wantedDyad(t, kids)
	}
	return wantedSentence(t, kids)
}

func wantedNumbers(numbers []int64, of64 string) string {
	var out []string
	for _, n := range numbers {
		if n == 64 {
			out = append(out, of64)
		} else {
			out = append(out, strings.Replace(strconv.FormatInt(n, 10), "-", "_", 1))
		}
	}
	return strings.Join(out, " ")
}

func wantedClosed(t api.Term, text string) string {
	switch t.Kind {
	case api.VPrim, api.VName, api.VDef, api.VHook, api.VFork, api.VCap:
		return text
	}
	return "(" + text + ")"
}

func wantedTrain(kind int, kids []string) string {
	words := []string{apart("", kids[0], "")}
	for i := range kids[1:] {
		words = append(words, apart(kids[i], kids[i+1], ""))
	}
	if kind == api.VCap {
		words = append([]string{"[:"}, words...)
	}
	return "(" + strings.Join(words, " ") + ")"
}

func wantedDyad(t api.Term, kids []string) string {
	left, number := kids[1], ""
	switch t.Kids[1].Kind {
	case api.KMon, api.KDy:
		left = "(" + left + ")"
	case api.KNum:
		number = left
	}
	return left + " " + apart(number, kids[0], kids[2]) + " " + kids[2]
}

// wantedSentence is the text of a sentence or a pick, and of what forms tells. That of a body has its blank behind it.
func wantedSentence(t api.Term, kids []string) string {
	switch t.Kind {
	case api.KPick:
		return "pick. " + kids[0] + " do. " + strings.Join(kids[1:], " or. ") + " end."
	case api.SSet:
		return t.Text + " =. " + kids[0]
	case api.SIf:
		return "if. " + kids[0] + " do. " + kids[1] + "else. " + kids[2] + "end."
	case api.SWhile:
		return "while. " + kids[0] + " do. " + kids[1] + "end."
	case api.SBody:
		if len(kids) == 0 {
			return ""
		}
		return strings.Join(kids, "; ") + " "
	}
	var out strings.Builder
	for _, r := range forms()[t.Kind] {
		switch at := strings.IndexRune("uvwV", r); at {
		case -1:
			out.WriteRune(r)
		case 3:
			out.WriteString(wantedClosed(t.Kids[1], kids[1]))
		default:
			out.WriteString(kids[at])
		}
	}
	return out.String()
}
