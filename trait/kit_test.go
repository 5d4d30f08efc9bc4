package trait

import (
	"fmt"
	"slices"
	"strings"
	"testing"

	"abacus/api"
	"abacus/parse"
	"abacus/term"
)

func sign(text string) api.Term { return api.Term{Kind: api.VPrim, Text: text} }

func noun(text string) api.Term { return api.Term{Kind: api.KName, Text: text} }

func verb(text string) api.Term { return api.Term{Kind: api.VName, Text: text} }

func of(kind int, kids ...api.Term) api.Term { return api.Term{Kind: kind, Kids: kids} }

// num is a KNum: a scalar of one number, a list of more.
func num(numbers ...int64) api.Term {
	t := api.Term{Kind: api.KNum, Num: api.Array{Atoms: numbers}}
	if len(numbers) > 1 {
		t.Num.Shape = []int{len(numbers)}
	}
	return t
}

func ranked(u api.Term, ranks ...int64) api.Term {
	return api.Term{Kind: api.VRank, Num: api.Array{Shape: []int{len(ranks)}, Atoms: ranks}, Kids: []api.Term{u}}
}

func say(n api.Term) api.Term { return of(api.SSay, n) }

func body(sentences ...api.Term) api.Term { return of(api.SBody, sentences...) }

func set(name string, n api.Term) api.Term {
	return api.Term{Kind: api.SSet, Text: name, Kids: []api.Term{n}}
}

func def(n int, sentences ...api.Term) api.Term {
	return api.Term{Kind: api.VDef, N: n, Kids: []api.Term{body(sentences...)}}
}

func mon(v, n api.Term) api.Term { return of(api.KMon, v, n) }

// nested is a verb of that many nodes, each but the last one of the kind and with the next one as its only operand.
func nested(kind, n int, last api.Term) api.Term {
	for range n - 1 {
		last = of(kind, last)
	}
	return last
}

// folded is a verb of 2^(levels+1) - 1 nodes, both of whose operands are one term at each level.
func folded(kind, levels int, last api.Term) api.Term {
	for range levels {
		last = of(kind, last, last)
	}
	return last
}

// ring is a term whose list of kids holds itself.
func ring(kind, kids int) api.Term {
	list := make([]api.Term, kids)
	for i := range list {
		list[i] = api.Term{Kind: kind, Kids: list}
	}
	return list[0]
}

// clone is a term in memory of its own.
func clone(t api.Term) api.Term {
	t.Text = strings.Clone(t.Text)
	t.Num = api.Array{Shape: slices.Clone(t.Num.Shape), Atoms: slices.Clone(t.Num.Atoms)}
	t.Kids = slices.Clone(t.Kids)
	for i, kid := range t.Kids {
		t.Kids[i] = clone(kid)
	}
	return t
}

// places are the nodes of a term, from itself on.
func places(t *api.Term) []*api.Term {
	out := []*api.Term{t}
	for i := range t.Kids {
		out = append(out, places(&t.Kids[i])...)
	}
	return out
}

// told tells a term whole, node by node.
func told(t api.Term) string {
	var out strings.Builder
	for _, node := range places(&t) {
		fmt.Fprintf(&out, "%d %q %d %v %v %d; ", node.Kind, node.Text, node.N, node.Num.Shape, node.Num.Atoms, len(node.Kids))
	}
	return out.String()
}

// brief is a text as a test may tell it.
func brief(s string) string {
	if len(s) > 300 {
		return fmt.Sprintf("%s.. of %d bytes", s[:300], len(s))
	}
	return s
}

// read is the verb that a text is.
func read(t *testing.T, s string) api.Term {
	t.Helper()
	v, at, e := parse.Verb(s)
	if e != api.OK {
		t.Fatalf("the test itself: %q: %v at %d", s, e, at)
	}
	return v
}

// checkRanks holds a verb's ranks against the wanted ones.
func checkRanks(t *testing.T, v api.Term, want [3]int) {
	t.Helper()
	if got, e := Ranks(v); got != want || e != api.OK {
		t.Errorf("P16.1: Ranks of %s: %v, %v; wanted %v", brief(told(v)), got, e, want)
	}
}

// checkTotal holds what is told of a verb in a valence against what is wanted.
func checkTotal(t *testing.T, v api.Term, valence int, want bool) {
	t.Helper()
	if got := Total(v, valence); got != want {
		t.Errorf("P16.2: Total of %s, %d: %v", brief(told(v)), valence, got)
	}
}

// otherValences are numbers of no valence.
func otherValences() []int {
	return []int{0, 3, -1, -2, 4, 5, 257, 258, 1 << 32, 1<<32 + 1, 1<<32 + 2, api.Max, api.Min, api.Min + 1, api.Min + 2}
}

// checkBoth holds what is told of a verb in both valences against what is wanted; in no other valence it is total.
func checkBoth(t *testing.T, v api.Term, asMonad, asDyad bool) {
	t.Helper()
	checkTotal(t, v, 1, asMonad)
	checkTotal(t, v, 2, asDyad)
	for _, valence := range otherValences() {
		checkTotal(t, v, valence, false)
	}
}

// checkNone asks that a term that is no verb, or may not be, has neither ranks nor is total.
func checkNone(t *testing.T, what string, v api.Term, want api.Errno) {
	t.Helper()
	if e := term.May(v, api.ClassVerb); e != want {
		t.Fatalf("the test itself: %s: %v", what, e)
	}
	if got, e := Ranks(v); got != [3]int{} || e != want {
		t.Errorf("P16.1: Ranks of %s: %v, %v; wanted zeros, %v", what, got, e, want)
	}
	for _, valence := range append(otherValences(), 1, 2) {
		if Total(v, valence) {
			t.Errorf("P16.2: Total of %s, %d", what, valence)
		}
	}
}
