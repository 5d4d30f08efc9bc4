package term

import (
	"math"
	"slices"
	"testing"

	"abacus/api"
)

// checkSame asks both ways round.
func checkSame(t *testing.T, a, b api.Term, want bool) {
	t.Helper()
	if Same(a, b) != want || Same(b, a) != want {
		t.Errorf("P13.5: Same(%s, %s): %v and %v, wanted %v", brief(a), brief(b), Same(a, b), Same(b, a), want)
	}
}

// oddTerms are terms that may not be, with fields of any values.
func oddTerms() []api.Term {
	return []api.Term{
		{}, {Kind: -1}, {Kind: 99, Text: "\xff\x00", N: math.MinInt}, {Kind: math.MaxInt, Num: array(lengths(-5, math.MaxInt), 1, 2)}, {Kind: api.KNum, Text: "x", N: 3, Num: array(nil, 1, 2), Kids: []api.Term{sign("+"), {}}},
		of(api.KName, noun("a"), noun("")), of(api.VName, of(api.SSet, verb("b"))), of(0, of(0, of(0))), sign("++"), noun("A"), verb("a"), list(0), list(1), list(100), num(lengths(2), 5), num(lengths(1, 1, 1, 1, 1, 1, 1, 1, 1), 5),
		{Kind: api.VPrim, Text: "+", N: 1}, {Kind: api.SSet, Text: "x y"}, {Text: "Mean"}, {N: -1}, {Num: array(lengths(0))}, {Num: array(nil, 0)}, {Kids: []api.Term{{}}}, {Kids: []api.Term{{}, {}}}, of(api.VHook, repeated(api.Term{Kind: api.VName}, 4095)...),
	}
}

// someTerms are terms of all kinds, as they should be and not.
func someTerms() []api.Term { return append(goodNodes(), oddTerms()...) }

// TestSameAll: each term is the same as itself, and as those alone that are told alike.
func TestSameAll(t *testing.T) {
	all := someTerms()
	var told []string
	for _, a := range all {
		told = append(told, wantedText(a))
	}
	for i, a := range all {
		checkSame(t, a, a, true)
		for j, b := range all {
			checkSame(t, a, clone(b), told[i] == told[j])
		}
	}
}

// fieldChanges are ways to change one field of a node.
func fieldChanges() map[string]func(*api.Term) {
	return map[string]func(*api.Term){
		"the kind, one more":      func(n *api.Term) { n.Kind++ },
		"the kind, by 2^32":       func(n *api.Term) { n.Kind += 1 << 32 },
		"the text, longer":        func(n *api.Term) { n.Text += "\x00" },
		"the text, ahead":         func(n *api.Term) { n.Text = " " + n.Text },
		"N, one more":             func(n *api.Term) { n.N++ },
		"N, its sign":             func(n *api.Term) { n.N = -n.N - 1 },
		"a length more":           func(n *api.Term) { n.Num.Shape = append(n.Num.Shape, 1) },
		"a length 0 ahead":        func(n *api.Term) { n.Num.Shape = append([]int{0}, n.Num.Shape...) },
		"an atom more":            func(n *api.Term) { n.Num.Atoms = append(n.Num.Atoms, 0) },
		"a kid more":              func(n *api.Term) { n.Kids = append(n.Kids, api.Term{}) },
		"a kid more, as the last": func(n *api.Term) { n.Kids = append(n.Kids, append([]api.Term{{Kind: 1}}, n.Kids...)[len(n.Kids)]) },
		"the first length": func(n *api.Term) {
			if len(n.Num.Shape) > 0 {
				n.Num.Shape[0]++
			} else {
				n.N = 5
			}
		},
		"the last atom": func(n *api.Term) {
			if last := len(n.Num.Atoms) - 1; last >= 0 {
				n.Num.Atoms[last]--
			} else {
				n.N = 5
			}
		},
		"no kids, or one": func(n *api.Term) {
			if len(n.Kids) > 0 {
				n.Kids = nil
			} else {
				n.Kids = []api.Term{{}}
			}
		},
		"a kid less, or one": func(n *api.Term) {
			if last := len(n.Kids) - 1; last >= 0 {
				n.Kids = n.Kids[:last]
			} else {
				n.Kids = []api.Term{sign("+")}
			}
		},
		"the kids turned": func(n *api.Term) {
			if len(n.Kids) > 1 && wantedText(n.Kids[0]) != wantedText(n.Kids[len(n.Kids)-1]) {
				slices.Reverse(n.Kids)
			} else {
				n.N = 5
			}
		},
	}
}

// TestOneField: terms that differ in one field of one node.
func TestOneField(t *testing.T) {
	for _, whole := range []api.Term{rich(), sign("+"), deep(20), list(3), ranked(of(api.VFork, sign("+"), list(2), ranked(sign("-"), 1, 2)), 0, 1, 2)} {
		for at := range places(&whole) {
			for what, change := range fieldChanges() {
				other := clone(whole)
				change(places(&other)[at])
				if Same(whole, other) || Same(other, whole) {
					t.Errorf("P13.5: the same, though %s of node %d differs, in %s", what, at, brief(whole))
				}
				checkSame(t, other, clone(other), true)
			}
		}
	}
	checkSame(t, num(lengths(2), 1, 2), num(lengths(1, 2), 1, 2), false)
	checkSame(t, num(nil, 5), num(lengths(1), 5), false)
	checkSame(t, num(lengths(2, 3)), num(lengths(3, 2)), false)
	checkSame(t, num(nil, 1, 2), num(nil, 2, 1), false)
	checkSame(t, of(api.VHook, sign("+"), sign("-")), of(api.VHook, sign("-"), sign("+")), false)
	checkSame(t, of(api.VHook, sign("+"), of(api.VHook, sign("-"), sign("*"))), of(api.VHook, of(api.VHook, sign("+"), sign("-")), sign("*")), false)
}

// TestSameOfGreat: a term that is too great is the same as none, not as itself; at the limits it is.
func TestSameOfGreat(t *testing.T) {
	small := []api.Term{sign("+"), {}, deep(256), longBody(4095)}
	for what, great := range greatTerms() {
		for _, other := range append(small, great, of(api.VInsert, great)) {
			if Same(great, other) || Same(other, great) {
				t.Errorf("P13.5: %s is the same as something", what)
			}
		}
	}
	for _, a := range []api.Term{deep(256), longBody(4095), folded(11), of(0, repeated(api.Term{}, 4095)...), wideAt(255, 4096-255)} {
		checkSame(t, a, clone(a), true)
		checkSame(t, a, a, true)
	}
	checkSame(t, deep(257), deep(256), false)
	checkSame(t, deep(257), deep(257), false)
	checkSame(t, longBody(4097), longBody(4097), false)
	checkSame(t, deep(255), deep(256), false)
}

// TestEmptyOrNil: an empty list is the same as none, at every depth.
func TestEmptyOrNil(t *testing.T) {
	for _, a := range someTerms() {
		other := clone(a)
		for _, node := range places(&other) {
			node.Num.Shape = append(lengths(), node.Num.Shape...)
			node.Num.Atoms = append([]int64{}, node.Num.Atoms...)
			node.Kids = append([]api.Term{}, node.Kids...)
			if len(node.Num.Shape) == 0 {
				node.Num.Shape = make([]int, 0, 5)
			}
		}
		checkSame(t, a, other, true)
		for class := api.ClassNoun; class <= api.ClassVerb; class++ {
			if May(a, class) != May(other, class) {
				t.Errorf("P0.4: May(%s): %v, and %v with empty lists", brief(a), May(a, class), May(other, class))
			}
		}
	}
}
