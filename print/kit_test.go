package print

import (
	"fmt"
	"slices"
	"strings"
	"testing"

	"abacus/api"
)

func of(kind int, kids ...api.Term) api.Term { return api.Term{Kind: kind, Kids: kids} }

func prim(text string) api.Term { return api.Term{Kind: api.VPrim, Text: text} }

func noun(text string) api.Term { return api.Term{Kind: api.KName, Text: text} }

func verb(text string) api.Term { return api.Term{Kind: api.VName, Text: text} }

// num is a KNum: a scalar of one number, a list of more.
func num(numbers ...int64) api.Term {
	t := api.Term{Kind: api.KNum, Num: api.Array{Atoms: numbers}}
	if len(numbers) > 1 {
		t.Num.Shape = []int{len(numbers)}
	}
	return t
}

func ranked(u api.Term, ranks ...int64) api.Term {
	return api.Term{Kind: api.VRank, Num: api.Array{Shape: []int{len(ranks)}, Atoms: ranks}, Kids: []api.Term{u}}
}

func say(n api.Term) api.Term { return of(api.SSay, n) }

func body(sentences ...api.Term) api.Term { return of(api.SBody, sentences...) }

func set(name string, n api.Term) api.Term {
	return api.Term{Kind: api.SSet, Text: name, Kids: []api.Term{n}}
}

func def(n int, sentences ...api.Term) api.Term {
	return api.Term{Kind: api.VDef, N: n, Kids: []api.Term{body(sentences...)}}
}

// constant is a VConst of a number, or of several.
func constant(numbers ...int64) api.Term { return of(api.VConst, num(numbers...)) }

func mon(v, n api.Term) api.Term { return of(api.KMon, v, n) }

func dy(v, left, right api.Term) api.Term { return of(api.KDy, v, left, right) }

// deep is a verb of that many nodes, each within the one ahead.
func deep(n int) api.Term {
	t := prim("+")
	for range n - 1 {
		t = of(api.VInsert, t)
	}
	return t
}

// short is a text as a test may tell it.
func short(s string) string {
	if len(s) > 200 {
		return fmt.Sprintf("%q.. of %d bytes", s[:200], len(s))
	}
	return fmt.Sprintf("%q", s)
}

// checkVerb holds a verb's text against the wanted one.
func checkVerb(t *testing.T, v api.Term, want string) {
	t.Helper()
	if s, e := Verb(v); s != want || e != api.OK {
		t.Errorf("P14.1: Verb: %s, %v; wanted %s", short(s), e, short(want))
	}
}

// checkNoun holds a noun's text against the wanted one.
func checkNoun(t *testing.T, n api.Term, want string) {
	t.Helper()
	if s, e := Noun(n); s != want || e != api.OK {
		t.Errorf("P14.2: Noun: %s, %v; wanted %s", short(s), e, short(want))
	}
}

// checkRefused asks for a term's text as a verb and as a noun.
func checkRefused(t *testing.T, what string, a api.Term, asVerb, asNoun api.Errno) {
	t.Helper()
	if s, e := Verb(a); s != "" || e != asVerb {
		t.Errorf("P14.1: Verb of %s: %s, %v; wanted %v", what, short(s), e, asVerb)
	}
	if s, e := Noun(a); s != "" || e != asNoun {
		t.Errorf("P14.2: Noun of %s: %s, %v; wanted %v", what, short(s), e, asNoun)
	}
}

// text gives the text of a verb, or of a noun, and the error.
func text(t api.Term) (string, api.Errno) {
	if t.Kind >= api.VPrim {
		return Verb(t)
	}
	return Noun(t)
}

// written is a term with its text.
type written struct {
	t    api.Term
	text string
}

func checkVerbs(t *testing.T, cases []written) {
	t.Helper()
	for _, c := range cases {
		checkVerb(t, c.t, c.text)
	}
}

func checkNouns(t *testing.T, cases []written) {
	t.Helper()
	for _, c := range cases {
		checkNoun(t, c.t, c.text)
	}
}

// clone is a term in memory of its own.
func clone(t api.Term) api.Term {
	t.Text = strings.Clone(t.Text)
	t.Num = api.Array{Shape: slices.Clone(t.Num.Shape), Atoms: slices.Clone(t.Num.Atoms)}
	t.Kids = slices.Clone(t.Kids)
	for i, kid := range t.Kids {
		t.Kids[i] = clone(kid)
	}
	return t
}

// places are all nodes of a term, itself first, each to be written into.
func places(t *api.Term) []*api.Term {
	out := []*api.Term{t}
	for i := range t.Kids {
		out = append(out, places(&t.Kids[i])...)
	}
	return out
}

// told tells a term whole, node by node, lists that are empty as those that are nil.
func told(t api.Term) string {
	var out strings.Builder
	for _, node := range places(&t) {
		fmt.Fprintf(&out, "%d %q %d %v %v %d; ", node.Kind, node.Text, node.N, node.Num.Shape, node.Num.Atoms, len(node.Kids))
	}
	return out.String()
}
