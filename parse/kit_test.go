package parse

import (
	"fmt"
	"slices"
	"strings"
	"testing"

	"abacus/api"
	"abacus/term"
)

func prim(text string) api.Term { return api.Term{Kind: api.VPrim, Text: text} }

func noun(text string) api.Term { return api.Term{Kind: api.KName, Text: text} }

func verb(text string) api.Term { return api.Term{Kind: api.VName, Text: text} }

// num is a KNum: a scalar of one number, a list of more.
func num(numbers ...int64) api.Term {
	t := api.Term{Kind: api.KNum, Num: api.Array{Atoms: numbers}}
	if len(numbers) > 1 {
		t.Num.Shape = []int{len(numbers)}
	}
	return t
}

func ranked(u api.Term, ranks ...int64) api.Term {
	return api.Term{Kind: api.VRank, Num: api.Array{Shape: []int{len(ranks)}, Atoms: ranks}, Kids: []api.Term{u}}
}

func say(n api.Term) api.Term { return of(api.SSay, n) }

func body(sentences ...api.Term) api.Term { return of(api.SBody, sentences...) }

func set(name string, n api.Term) api.Term {
	return api.Term{Kind: api.SSet, Text: name, Kids: []api.Term{n}}
}

func def(n int, sentences ...api.Term) api.Term {
	return api.Term{Kind: api.VDef, N: n, Kids: []api.Term{body(sentences...)}}
}

// constant is a VConst of a number, or of several.
func constant(numbers ...int64) api.Term { return of(api.VConst, num(numbers...)) }

func mon(v, n api.Term) api.Term { return of(api.KMon, v, n) }

func dy(v, left, right api.Term) api.Term { return of(api.KDy, v, left, right) }

func fork(u, v, w api.Term) api.Term { return of(api.VFork, u, v, w) }

func hook(u, v api.Term) api.Term { return of(api.VHook, u, v) }

// deep is a verb of that many nodes, each within the one ahead.
func deep(n int) api.Term {
	t := prim("+")
	for range n - 1 {
		t = of(api.VInsert, t)
	}
	return t
}

// short is a text as a test may tell it.
func short(s string) string {
	if len(s) > 200 {
		return fmt.Sprintf("%q.. of %d bytes", s[:200], len(s))
	}
	return fmt.Sprintf("%q", s)
}

// clone is a term in memory of its own.
func clone(t api.Term) api.Term {
	t.Text = strings.Clone(t.Text)
	t.Num = api.Array{Shape: slices.Clone(t.Num.Shape), Atoms: slices.Clone(t.Num.Atoms)}
	t.Kids = slices.Clone(t.Kids)
	for i, kid := range t.Kids {
		t.Kids[i] = clone(kid)
	}
	return t
}

// told tells a term whole, node by node, lists that are empty as those that are nil.
func told(t api.Term) string {
	var out strings.Builder
	var tell func(t api.Term)
	tell = func(t api.Term) {
		fmt.Fprintf(&out, "%d", t.Kind)
		if t.Text != "" {
			fmt.Fprintf(&out, " %q", t.Text)
		}
		if t.N != 0 {
			fmt.Fprintf(&out, " N %d", t.N)
		}
		if len(t.Num.Shape)+len(t.Num.Atoms) > 0 {
			fmt.Fprintf(&out, " %v of %v", t.Num.Shape, t.Num.Atoms)
		}
		if len(t.Kids) == 0 {
			return
		}
		out.WriteString(" (")
		for i, kid := range t.Kids {
			if i > 0 {
				out.WriteString("; ")
			}
			tell(kid)
		}
		out.WriteString(")")
	}
	tell(t)
	return out.String()
}

// answer is what Verb and Noun give.
type answer struct {
	t  api.Term
	at int
	e  api.Errno
}

func (a answer) told() string { return fmt.Sprintf("%s, %d, %v", told(a.t), a.at, a.e) }

func verbOf(s string) answer {
	t, at, e := Verb(s)
	return answer{t, at, e}
}

func nounOf(s string) answer {
	t, at, e := Noun(s)
	return answer{t, at, e}
}

// checkVerb holds what a text is as a verb against the wanted one.
func checkVerb(t *testing.T, s string, want api.Term) {
	t.Helper()
	check(t, "P15.1: Verb", s, verbOf(s), answer{t: want})
}

// checkNoun holds what a text is as a noun against the wanted one.
func checkNoun(t *testing.T, s string, want api.Term) {
	t.Helper()
	check(t, "P15.1: Noun", s, nounOf(s), answer{t: want})
}

func check(t *testing.T, call, s string, got, want answer) {
	t.Helper()
	if got.told() != want.told() {
		t.Errorf("%s(%s): %s; wanted %s", call, short(s), short(got.told()), short(want.told()))
	}
}

// checkVerbFault and checkNounFault hold the fault of a text against the wanted one.
func checkVerbFault(t *testing.T, s string, at int, e api.Errno) {
	t.Helper()
	check(t, "P15.1: Verb", s, verbOf(s), answer{at: at, e: e})
}

func checkNounFault(t *testing.T, s string, at int, e api.Errno) {
	t.Helper()
	check(t, "P15.1: Noun", s, nounOf(s), answer{at: at, e: e})
}

// checkSyntax asks of a text that both calls tell ErrSyntax there: marked by a | in the text, which stands ahead of the word that is told.
func checkSyntax(t *testing.T, marked string) {
	t.Helper()
	at := strings.Index(marked, "|")
	if at < 0 {
		t.Fatalf("the test itself: no mark in %s", short(marked))
	}
	s := marked[:at] + marked[at+1:]
	checkVerbFault(t, s, at, api.ErrSyntax)
	checkNounFault(t, s, at, api.ErrSyntax)
}

// read is a text with the term that it is.
type read struct {
	s    string
	want api.Term
}

// checkAll holds each text against its term, a verb or a noun; as the other class it is ErrKind, 0.
func checkAll(t *testing.T, cases []read) {
	t.Helper()
	for _, c := range cases {
		if e := term.May(c.want, term.Class(c.want)); e != api.OK {
			t.Fatalf("the test itself: %s: %v", c.s, e)
		}
		if term.Class(c.want) == api.ClassVerb {
			checkVerb(t, c.s, c.want)
			checkNounFault(t, c.s, 0, api.ErrKind)
		} else {
			checkNoun(t, c.s, c.want)
			checkVerbFault(t, c.s, 0, api.ErrKind)
		}
	}
}
