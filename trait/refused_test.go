package trait

import (
	"math"
	"slices"
	"testing"

	"abacus/api"
	"abacus/term"
)

// tooGreat are terms with too many nodes, or too deep.
func tooGreat() map[string]api.Term {
	return map[string]api.Term{
		"257 deep":            nested(api.VObv, 257, sign("]")),
		"257 swaps":           nested(api.VSwap, 257, sign("]")),
		"10000 deep":          nested(api.VSwap, 10000, sign("]")),
		"257 deep, a noun":    mon(nested(api.VSwap, 256, sign("]")), noun("y")),
		"4097 nodes":          of(api.VSwap, mostNodes()),
		"100000 kids":         of(api.VHook, slices.Repeat([]api.Term{sign("]")}, 100000)...),
		"2^61 nodes":          folded(api.VAdverse, 60, sign("]")),
		"2^301 nodes":         folded(api.VBoth, 300, sign("]")),
		"a ring of verbs":     ring(api.VSwap, 1),
		"a ring of two":       ring(api.VAt, 2),
		"a ring of nouns":     ring(api.KPick, 3),
		"a ring of sentences": ring(api.SBody, 2),
		"too deep and wrong":  of(99, nested(api.VSwap, 256, sign("]"))),
		"too many, all wrong": of(api.SBody, slices.Repeat([]api.Term{{Kind: -1}}, 4096)...),
	}
}

// mostNodes is a verb of 4096 nodes, total in both valences.
func mostNodes() api.Term {
	half := folded(api.VAdverse, 10, sign("]"))
	return of(api.VBoth, half, of(api.VSwap, half))
}

// wrong are terms with a node that may not be, verbs that would be total among them.
func wrong() map[string]api.Term {
	odd, named, listed := sign("]"), of(api.VObv, sign("]"), sign("]")), sign("[")
	odd.N, named.Text, listed.Num = 1, "]", api.Array{Shape: []int{0}}
	zero := of(api.VPow, sign("]"), api.Term{Kind: api.KNum, Num: api.Array{Shape: []int{1}, Atoms: []int64{0}}})
	out := map[string]api.Term{
		"nothing": {}, "no kind": {Kind: 99}, "a kind below 0": {Kind: -20}, "a huge kind": {Kind: math.MaxInt}, "the greatest negative kind": {Kind: math.MinInt},
		"no primitive": sign("++"), "an empty primitive": sign(""), "a primitive with a blank": sign("] "), "a primitive with N": odd, "an obverse with a text": named, "a primitive with an array": listed, "a primitive with a kid": {Kind: api.VPrim, Text: "]", Kids: []api.Term{sign("]")}},
		"a small verb's name": verb("mean"), "a capital noun's name": noun("Total"), "no name": verb(""), "a name of 33 bytes": verb("Abcdefghijklmnopqrstuvwxyz0123456"),
		"a swap of nothing": of(api.VSwap), "a swap of a noun": of(api.VSwap, num(1)), "a swap of two": of(api.VSwap, sign("]"), sign("]")), "an at of one": of(api.VAt, sign("]")), "an at of three": of(api.VAt, sign("]"), sign("]"), sign("]")), "a fork of two": of(api.VFork, sign("]"), sign("]")), "a hook of a noun": of(api.VHook, sign("]"), num(1)), "a cap of one": of(api.VCap, sign("]")), "both of one": of(api.VBoth, sign("]")), "an adverse of a noun": of(api.VAdverse, sign("]"), num(1)),
		"a constant x": of(api.VConst, noun("x")), "a constant y": of(api.VConst, noun("y")), "a constant of nothing": of(api.VConst), "a constant of a verb": of(api.VConst, sign("]")), "a constant of a sum": of(api.VConst, mon(sign("]"), num(1))), "a bond with y": of(api.VBondL, noun("y"), sign("]")), "a bond the wrong way": of(api.VBondR, num(1), sign("]")), "a power of x": of(api.VPow, sign("]"), noun("x")), "a power the wrong way": of(api.VPow, num(0), sign("]")), "a power of a list of one": zero,
		"no ranks": ranked(sign("]")), "four ranks": ranked(sign("]"), 64, 64, 64, 64), "a rank of 9": ranked(sign("]"), 9), "a rank of -9": ranked(sign("]"), -9), "a rank of 63": ranked(sign("]"), 63), "a rank of 65": ranked(sign("]"), 64, 64, 65), "a rank that is a scalar": {Kind: api.VRank, Num: api.Array{Atoms: []int64{64}}, Kids: []api.Term{sign("]")}}, "ranks of a wrong length": {Kind: api.VRank, Num: api.Array{Shape: []int{2}, Atoms: []int64{64}}, Kids: []api.Term{sign("]")}}, "a rank of nothing": {Kind: api.VRank, Num: api.Array{Shape: []int{1}, Atoms: []int64{64}}},
		"an agenda of no branch": of(api.VAgenda, sign("]")), "an agenda of 17 branches": of(api.VAgenda, slices.Repeat([]api.Term{sign("]")}, 18)...), "an agenda of nothing": of(api.VAgenda),
		"a definition of three": {Kind: api.VDef, N: 3, Kids: []api.Term{body()}}, "a definition without a body": {Kind: api.VDef, N: 1}, "x where it may not be": def(1, say(noun("x"))), "a body in a body": def(1, body()),
		"no number": num(), "a list of 65": of(api.VConst, num(make([]int64, 65)...)), "a noun that is wrong": noun("A"), "a sentence that is wrong": set("A", num(1)), "a constant of a table": of(api.VConst, api.Term{Kind: api.KNum, Num: api.Array{Shape: []int{2, 1}, Atoms: []int64{1, 2}}}),
	}
	for what, t := range out {
		if term.Class(t) == api.ClassVerb {
			out["within a train: "+what] = of(api.VFork, sign("]"), sign("["), t)
			out["where it is not asked: "+what] = of(api.VAdverse, sign("]"), t)
			out["below a power of 0: "+what] = of(api.VPow, t, num(0))
			out["below ranks: "+what] = ranked(t, 1, 2, 3)
		}
	}
	return out
}

// TestRefused: term.May's errors, each of them, and no ranks; nothing of it is total.
func TestRefused(t *testing.T) {
	for what, v := range tooGreat() {
		checkNone(t, what, v, api.ErrLong)
	}
	for what, v := range wrong() {
		checkNone(t, what, v, api.ErrTerm)
	}
	for what, v := range map[string]api.Term{
		"a number": num(5), "a list": num(1, 2), "a name": noun("y"), "a monad's noun": mon(sign("]"), num(1)), "a dyad's noun": of(api.KDy, sign("["), num(1), num(2)), "a pick": of(api.KPick, num(1), num(2)), "a noun 256 deep": mon(nested(api.VSwap, 255, sign("]")), noun("y")),
		"a sentence": say(num(1)), "a setting": set("a", num(1)), "an if": of(api.SIf, num(1), body(), body()), "a while": of(api.SWhile, num(1), body()), "a body": body(say(num(1))), "an empty body": body(),
	} {
		checkNone(t, what, v, api.ErrKind)
	}
}

// TestOtherKinds: a number of no kind, with kids that would fit a verb's, is no verb.
func TestOtherKinds(t *testing.T) {
	for kind := -70; kind <= 70; kind++ {
		for _, kids := range [][]api.Term{nil, {sign("]")}, {sign("]"), sign("]")}, {sign("]"), sign("]"), sign("]")}} {
			v := of(kind, kids...)
			e := term.May(v, api.ClassVerb)
			if got, e2 := Ranks(v); e2 != e || e != api.OK && got != [3]int{} {
				t.Errorf("P16.1: Ranks of kind %d with %d kids: %v, %v; wanted %v", kind, len(kids), got, e2, e)
			}
			if e != api.OK && (Total(v, 1) || Total(v, 2)) {
				t.Errorf("P16.2: Total of kind %d with %d kids", kind, len(kids))
			}
		}
	}
}

// spoil changes one field of a node.
func (d *dice) spoil(node *api.Term) {
	switch d.throw(8) {
	case 0:
		node.Kind = []int{0, 99, -1, api.KNum, api.SSay, api.VPrim, api.VSwap, api.VAt, api.VFork, api.KMon, api.VConst, api.VPow}[d.throw(12)]
	case 1:
		node.N += 1 + d.throw(2)
	case 2:
		node.Text = []string{"", "x", "y", "a", "A", "]", "++", "i."}[d.throw(8)]
	case 3:
		node.Num = api.Array{Shape: []int{d.throw(3)}, Atoms: make([]int64, d.throw(3))}
	case 4:
		node.Num = api.Array{}
	case 5:
		node.Kids = append(node.Kids, sign("]"))
	case 6:
		node.Kids = append(node.Kids, noun("y"))
	case 7:
		node.Kids = node.Kids[:len(node.Kids)/2]
	}
}

// TestSpoilt: terms that are wrong somewhere are refused as term.May says; those that may be in spite of it are told as ever.
func TestSpoilt(t *testing.T) {
	var d dice
	refused := 0
	for range 20000 {
		v := d.verb(2 + d.throw(6))
		nodes := places(&v)
		d.spoil(nodes[d.throw(len(nodes))])
		if e := term.May(v, api.ClassVerb); e != api.OK {
			checkNone(t, brief(told(v)), v, e)
			refused++
			continue
		}
		checkRanks(t, v, wantedRanks(v))
		checkBoth(t, v, wantedTotal(v, 1), wantedTotal(v, 2))
	}
	if refused < 8000 || refused > 19900 {
		t.Errorf("the test itself: %d terms are refused", refused)
	}
}
