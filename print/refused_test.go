package print

import (
	"math"
	"slices"
	"testing"

	"abacus/api"
	"abacus/term"
)

// ringOf is a term whose list of kids holds itself.
func ringOf(kind, kids int) api.Term {
	list := make([]api.Term, kids)
	for i := range list {
		list[i] = api.Term{Kind: kind, Kids: list}
	}
	return list[0]
}

// folded is a verb of 2^(levels+1) - 1 nodes, whose kids are one list at each level.
func folded(levels int) api.Term {
	t := prim("+")
	for range levels {
		t = of(api.VHook, t, t)
	}
	return t
}

// tooGreat are terms with too many nodes, or too deep.
func tooGreat() map[string]api.Term {
	return map[string]api.Term{
		"257 deep":             deep(257),
		"10000 deep":           deep(10000),
		"257 deep, a noun":     mon(deep(256), noun("y")),
		"4097 nodes":           def(1, append(slices.Repeat([]api.Term{say(num(1))}, 2046), say(mon(prim("+"), num(1))), say(num(1)))...),
		"100000 kids":          of(api.VHook, slices.Repeat([]api.Term{prim("+")}, 100000)...),
		"2^61 nodes":           folded(60),
		"2^301 nodes":          folded(300),
		"a ring of verbs":      ringOf(api.VInsert, 1),
		"a ring of two":        ringOf(api.VHook, 2),
		"a ring of nouns":      ringOf(api.KPick, 3),
		"a ring of sentences":  ringOf(api.SBody, 2),
		"a ring of no kind":    ringOf(99, 2),
		"too deep and wrong":   of(99, deep(256)),
		"too great, too long":  of(api.VHook, longest(api.MaxText+1), folded(60)),
		"too great, all wrong": of(api.SBody, slices.Repeat([]api.Term{{Kind: -1}}, 4096)...),
	}
}

// wrong are terms with a node that may not be, at the top or below it.
func wrong() map[string]api.Term {
	odd := prim("+")
	odd.N = 1
	named, listed := deep(2), prim("-")
	named.Text, listed.Num = "+", api.Array{Shape: []int{0}}
	bad := api.Term{Kind: api.VDef, N: 3, Kids: []api.Term{body()}}
	out := map[string]api.Term{
		"nothing": {}, "no kind": {Kind: 99}, "a kind below 0": {Kind: -20}, "a huge kind": {Kind: math.MaxInt},
		"no primitive": prim("++"), "an empty primitive": prim(""), "a primitive with N": odd, "an insert with a text": named, "a primitive with an array": listed,
		"a small verb's name": verb("mean"), "a capital noun's name": noun("Total"), "no name": noun(""), "a name of 33 bytes": noun("abcdefghijklmnopqrstuvwxyz0123456"), "a name with a blank": noun("a b"),
		"an insert of nothing": of(api.VInsert), "an insert of a noun": of(api.VInsert, num(1)), "an insert of two": of(api.VInsert, prim("+"), prim("+")), "an atop of one": of(api.VAtop, prim("+")), "a fork of two": of(api.VFork, prim("+"), prim("+")), "a hook of a noun": of(api.VHook, prim("+"), num(1)),
		"a constant x": of(api.VConst, noun("x")), "a constant y": of(api.VConst, noun("y")), "a constant of a sum": of(api.VConst, mon(prim("+"), num(1))), "a bond with y": of(api.VBondL, noun("y"), prim("+")), "a bond of verbs": of(api.VBondL, prim("+"), prim("+")), "a bond the wrong way": of(api.VBondR, num(1), prim("+")), "a power of x": of(api.VPow, prim("+"), noun("x")),
		"no ranks": ranked(prim("+")), "four ranks": ranked(prim("+"), 1, 2, 3, 4), "a rank of 9": ranked(prim("+"), 9), "a rank of -9": ranked(prim("+"), -9), "a rank of 63": ranked(prim("+"), 63), "a rank of -64": ranked(prim("+"), 0, -64),
		"an agenda of no branch": of(api.VAgenda, prim("+")), "an agenda of 17 branches": of(api.VAgenda, slices.Repeat([]api.Term{prim("+")}, 18)...), "an agenda of nothing": of(api.VAgenda), "a pick of no branch": of(api.KPick, num(1)), "a pick of 17 branches": of(api.KPick, slices.Repeat([]api.Term{num(1)}, 18)...),
		"a definition of three": bad, "a definition of none": {Kind: api.VDef, Kids: []api.Term{body()}}, "a definition without a body": {Kind: api.VDef, N: 1}, "a definition of a sentence": {Kind: api.VDef, N: 1, Kids: []api.Term{say(num(1))}},
		"x where it may not be": def(1, say(noun("x"))), "x that is set": def(1, set("x", num(1))), "a body in a body": def(1, body()), "a noun in a body": def(1, num(1)), "an if without else": def(1, of(api.SIf, noun("y"), body())), "an if of sentences": def(1, of(api.SIf, noun("y"), say(num(1)), body())), "a while of verbs": def(1, of(api.SWhile, prim("+"), body())),
		"a list of one": {Kind: api.KNum, Num: api.Array{Shape: []int{1}, Atoms: []int64{5}}}, "a list of none": {Kind: api.KNum, Num: api.Array{Shape: []int{0}}}, "a list of 65": num(make([]int64, 65)...), "no number": num(), "a table": {Kind: api.KNum, Num: api.Array{Shape: []int{2, 1}, Atoms: []int64{1, 2}}}, "a length that lies": {Kind: api.KNum, Num: api.Array{Shape: []int{3}, Atoms: []int64{1, 2}}},
		"too long a text, and wrong": of(api.VHook, longest(api.MaxText+1), prim("++")),
	}
	for what, t := range out {
		if term.Class(t) == api.ClassVerb {
			out["within a train: "+what] = of(api.VFork, prim("+"), t, prim("-"))
		}
	}
	return out
}

// TestRefusedTerms: what may not be, what is of another class, and nothing else, is refused.
func TestRefusedTerms(t *testing.T) {
	for what, a := range tooGreat() {
		checkRefused(t, what, a, api.ErrLong, api.ErrLong)
	}
	for what, a := range wrong() {
		checkRefused(t, what, a, api.ErrTerm, api.ErrTerm)
	}
	for what, a := range map[string]api.Term{"a sentence": say(num(1)), "a setting": set("a", num(1)), "an if": of(api.SIf, num(1), body(), body()), "a while": of(api.SWhile, num(1), body()), "a body": body(say(num(1))), "an empty body": body()} {
		checkRefused(t, what, a, api.ErrKind, api.ErrKind)
	}
	for _, v := range append(eachVerb(), phrased{t: deep(256)}, phrased{t: longest(api.MaxText + 1)}) {
		if s, e := Noun(v.t); s != "" || e != api.ErrKind {
			t.Errorf("P14.2: Noun of the verb %s: %s, %v", v.text, short(s), e)
		}
	}
	for _, n := range []api.Term{num(1), num(1, 2), noun("y"), mon(prim("+"), num(1)), dy(prim("+"), num(1), num(2)), of(api.KPick, num(1), num(2)), mon(longest(api.MaxText), num(1))} {
		if s, e := Verb(n); s != "" || e != api.ErrKind {
			t.Errorf("P14.1: Verb of the noun %s: %s, %v", short(told(n)), short(s), e)
		}
	}
}

// spoil changes one field of a node.
func (d *dice) spoil(node *api.Term) {
	switch d.throw(8) {
	case 0:
		node.Kind = []int{0, 99, -1, api.KNum, api.SSay, api.VPrim, api.VInsert, api.VHook, api.VFork, api.KMon}[d.throw(10)]
	case 1:
		node.N += 1 + d.throw(2)
	case 2:
		node.Text = []string{"", "x", "y", "a", "A", "+", "++", "i."}[d.throw(8)]
	case 3:
		node.Num = api.Array{Shape: []int{d.throw(3)}, Atoms: make([]int64, d.throw(3))}
	case 4:
		node.Num = api.Array{}
	case 5:
		node.Kids = append(node.Kids, prim("+"))
	case 6:
		node.Kids = append(node.Kids, noun("y"))
	case 7:
		node.Kids = node.Kids[:len(node.Kids)/2]
	}
}

// TestSpoilt: terms that are wrong somewhere are refused as term.May says, ahead of all else; those that may be in spite of it have their texts.
func TestSpoilt(t *testing.T) {
	var d thrower
	refused := 0
	for range 20000 {
		a := d.thrown()
		nodes := places(&a)
		d.spoil(nodes[d.throw(len(nodes))])
		asVerb, asNoun := term.May(a, api.ClassVerb), term.May(a, api.ClassNoun)
		if asVerb == api.OK {
			checkVerb(t, a, wanted(a))
		} else if asNoun == api.OK {
			checkNoun(t, a, wanted(a))
		} else {
			checkRefused(t, short(told(a)), a, asVerb, asNoun)
			refused++
		}
	}
	if refused < 10000 || refused > 19900 {
		t.Errorf("the test itself: %d terms are refused", refused)
	}
}
