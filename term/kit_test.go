package term

import (
	"fmt"
	"math"
	"slices"
	"strings"
	"testing"

	"abacus/api"
)

func sign(text string) api.Term { return api.Term{Kind: api.VPrim, Text: text} }

func noun(text string) api.Term { return api.Term{Kind: api.KName, Text: text} }

func verb(text string) api.Term { return api.Term{Kind: api.VName, Text: text} }

func of(kind int, kids ...api.Term) api.Term { return api.Term{Kind: kind, Kids: kids} }

func lengths(ns ...int) []int { return ns }

func array(shape []int, atoms ...int64) api.Array { return api.Array{Shape: shape, Atoms: atoms} }

func num(shape []int, atoms ...int64) api.Term {
	return api.Term{Kind: api.KNum, Num: array(shape, atoms...)}
}

// list is a KNum of the numbers 1 to n.
func list(n int) api.Term {
	t := num(lengths(n))
	for i := range n {
		t.Num.Atoms = append(t.Num.Atoms, int64(i+1))
	}
	return t
}

func say(n api.Term) api.Term { return of(api.SSay, n) }

func body(sentences ...api.Term) api.Term { return of(api.SBody, sentences...) }

func set(name string, n api.Term) api.Term {
	return api.Term{Kind: api.SSet, Text: name, Kids: []api.Term{n}}
}

func def(n int, sentences ...api.Term) api.Term {
	return api.Term{Kind: api.VDef, N: n, Kids: []api.Term{body(sentences...)}}
}

func ranked(u api.Term, ranks ...int64) api.Term {
	return api.Term{Kind: api.VRank, Num: array(lengths(len(ranks)), ranks...), Kids: []api.Term{u}}
}

// repeated is n kids that all are one term.
func repeated(t api.Term, n int) []api.Term { return slices.Repeat([]api.Term{t}, n) }

// deep is a verb of that many nodes, each within the one ahead.
func deep(n int) api.Term {
	t := sign("+")
	for range n - 1 {
		t = of(api.VInsert, t)
	}
	return t
}

// longBody is a body of that many nodes, an odd number from 1 on.
func longBody(nodes int) api.Term { return body(repeated(say(noun("y")), nodes/2)...) }

// folded is a verb of 2^(levels+1) - 1 nodes, whose kids are one list at each level.
func folded(levels int) api.Term {
	t := sign("+")
	for range levels {
		t = of(api.VHook, t, t)
	}
	return t
}

// ring is a term whose list of kids holds itself.
func ring(kind, kids int) api.Term {
	list := make([]api.Term, kids)
	for i := range list {
		list[i] = api.Term{Kind: kind, Kids: list}
	}
	return list[0]
}

// greatTerms are too great, each in its own way.
func greatTerms() map[string]api.Term {
	odd := deep(257)
	odd.Kind = -1
	return map[string]api.Term{
		"257 deep":                    deep(257),
		"300 deep":                    deep(300),
		"257 deep, of no kind":        odd,
		"10000 deep":                  deep(10000),
		"4097 nodes":                  longBody(4097),
		"100000 kids":                 of(api.VHook, repeated(sign("+"), 100000)...),
		"2^61 - 1 nodes":              folded(60),
		"2^201 - 1 nodes":             folded(200),
		"2^301 - 1 nodes":             folded(300),
		"a ring of one":               ring(api.VInsert, 1),
		"a ring of two":               ring(api.VHook, 2),
		"a ring of names":             ring(api.KName, 5000),
		"deep behind much":            of(api.VHook, of(api.VFork, repeated(sign("+"), 3800)...), deep(256)),
		"wide at the bottom":          wideAt(255, 4000),
		"a wrong node at each place":  of(0, repeated(api.Term{Kind: 99, N: 5}, 4096)...),
		"17^30 nodes and more":        arms(30),
		"2^60 nodes below one more":   of(api.VInsert, folded(59)),
		"2^60 nodes behind a sibling": of(api.VHook, sign("++"), folded(59)),
	}
}

// wideAt is a verb of a chain of that many nodes above kids.
func wideAt(depth, kids int) api.Term {
	t := of(api.VAgenda, repeated(sign("+"), kids)...)
	for range depth - 1 {
		t = of(api.VInsert, t)
	}
	return t
}

// arms is a verb of levels of an agenda, all of whose kids are one.
func arms(levels int) api.Term {
	t := sign("+")
	for range levels {
		t = of(api.VAgenda, repeated(t, 17)...)
	}
	return t
}

// rich is a verb with a node of every kind.
func rich() api.Term {
	u, v, n, m := sign("+"), verb("Mean"), num(nil, 5), list(3)
	whole := body(
		set("total", of(api.KMon, of(api.VInsert, u), noun("y"))),
		of(api.SIf, of(api.KDy, sign("<"), noun("x"), n), body(say(m)), body(set("x", noun("x")))),
		of(api.SWhile, noun("total"), body(say(of(api.KPick, noun("k"), n, m, noun("y"))))),
		say(noun("total")),
	)
	t := api.Term{Kind: api.VDef, N: 2, Kids: []api.Term{whole}}
	for kind := api.VPrefix; kind <= api.VSwap; kind++ {
		t = of(kind, t)
	}
	for kind := api.VAtop; kind <= api.VPowV; kind++ {
		t = of(kind, t, v)
	}
	t = of(api.VBondR, of(api.VBondL, n, t), noun("a"))
	t = of(api.VAgenda, v, of(api.VPow, t, m), of(api.VConst, noun("b2")))
	t = ranked(of(api.VHook, t, u), 0, -1, 64)
	return of(api.VFork, of(api.VCap, u, t), def(1, say(of(api.KMon, v, noun("y")))), v)
}

// brief is a term as a test may tell it.
func brief(t api.Term) string {
	var out strings.Builder
	var tell func(t api.Term, depth int)
	tell = func(t api.Term, depth int) {
		if out.Len() > 200 || depth > 12 {
			return
		}
		fmt.Fprintf(&out, "%d", t.Kind)
		if t.Text != "" {
			fmt.Fprintf(&out, " %.40q", t.Text)
		}
		if t.N != 0 {
			fmt.Fprintf(&out, " N %d", t.N)
		}
		if len(t.Num.Shape)+len(t.Num.Atoms) > 0 {
			fmt.Fprintf(&out, " %d of %d", t.Num.Shape, t.Num.Atoms)
		}
		if len(t.Kids) == 0 {
			return
		}
		out.WriteString(" (")
		for i := 0; i < len(t.Kids) && out.Len() <= 200; i++ {
			tell(t.Kids[i], depth+1)
			out.WriteString("; ")
		}
		out.WriteString(")")
	}
	tell(t, 1)
	return out.String()
}

// checkMay holds May's answer against the wanted one.
func checkMay(t *testing.T, a api.Term, class int, want api.Errno) {
	t.Helper()
	if e := May(a, class); e != want {
		t.Errorf("P13.3, P13.4: May(%s, class %d): %v, wanted %v", brief(a), class, e, want)
	}
}

// checkGood asks of a term that may be, as each class.
func checkGood(t *testing.T, a api.Term) {
	t.Helper()
	for class := api.ClassNoun; class <= api.ClassVerb; class++ {
		want := api.ErrKind
		if class == wantedClass(a.Kind) {
			want = api.OK
		}
		checkMay(t, a, class, want)
	}
	checkNoClass(t, a)
}

// checkWrong asks of a term with a wrong node, as each class.
func checkWrong(t *testing.T, a api.Term) {
	t.Helper()
	for class := api.ClassNoun; class <= api.ClassVerb; class++ {
		checkMay(t, a, class, api.ErrTerm)
	}
	checkNoClass(t, a)
}

func checkNoClass(t *testing.T, a api.Term) {
	t.Helper()
	for _, class := range []int{0, 4, -1, 5, math.MinInt, math.MaxInt} {
		checkMay(t, a, class, api.ErrArg)
	}
}

// wantedClass is the class of a kind: nouns are 1 to 5, sentences 10 to 14, verbs 20 to 46.
func wantedClass(kind int) int {
	for class, kinds := range [][2]int{1: {1, 5}, 2: {10, 14}, 3: {20, 46}} {
		for k := kinds[0]; class > 0 && k <= kinds[1]; k++ {
			if k == kind {
				return class
			}
		}
	}
	return 0
}

// clone is a term in memory of its own, without a call of the package.
func clone(t api.Term) api.Term {
	out := api.Term{Kind: t.Kind, Text: t.Text, N: t.N}
	out.Num.Shape = append(out.Num.Shape, t.Num.Shape...)
	out.Num.Atoms = append(out.Num.Atoms, t.Num.Atoms...)
	for _, kid := range t.Kids {
		out.Kids = append(out.Kids, clone(kid))
	}
	return out
}

// places are all nodes of a term, itself first, each to be written into.
func places(t *api.Term) []*api.Term {
	out := []*api.Term{t}
	for i := range t.Kids {
		out = append(out, places(&t.Kids[i])...)
	}
	return out
}

// dice are numbers that look thrown, the same ones each time.
type dice uint64

func (d *dice) throw(n int) int {
	*d = *d*6364136223846793005 + 1442695040888963407
	return int(uint64(*d) >> 33 % uint64(n))
}
