package parse

import (
	"slices"
	"strings"
	"testing"

	"abacus/api"
	"abacus/print"
	"abacus/term"
)

// checkBack writes a term by package print, and reads it back.
func checkBack(t *testing.T, a api.Term) {
	t.Helper()
	class := term.Class(a)
	write, readAs := print.Verb, verbOf
	if class == api.ClassNoun {
		write, readAs = print.Noun, nounOf
	}
	s, e := write(a)
	if e != api.OK {
		t.Fatalf("the test itself: %s: %v", short(told(a)), e)
	}
	got := readAs(s)
	if got.e != api.OK || got.at != 0 || told(got.t) != told(a) || !term.Same(got.t, a) {
		t.Fatalf("P15.3: %s is read back as %s, not as %s", short(s), short(got.told()), short(told(a)))
	}
	if again, e := write(got.t); e != api.OK || again != s {
		t.Fatalf("P15.3: %s is read, and then written as %s", short(s), short(again))
	}
}

// madeOf are verbs of every kind, of these verbs and operands.
func madeOf(verbs, operands []api.Term) []api.Term {
	var out []api.Term
	for _, u := range verbs {
		for kind := api.VInsert; kind <= api.VSwap; kind++ {
			out = append(out, of(kind, u))
		}
		out = append(out, ranked(u, 1), ranked(u, 64), ranked(u, 1, 2), ranked(u, 64, 1), ranked(u, -1, 0, 64))
		out = append(out, def(1, say(mon(u, noun("y")))), def(2, say(dy(u, noun("x"), noun("y")))), def(1, set("a", mon(u, num(1)))))
		for _, v := range verbs {
			for kind := api.VAtop; kind <= api.VPowV; kind++ {
				out = append(out, of(kind, u, v))
			}
			out = append(out, of(api.VAgenda, u, v), hook(u, v), of(api.VCap, u, v), fork(u, v, u), of(api.VAgenda, u, v, u))
		}
		for _, n := range operands {
			out = append(out, of(api.VBondL, n, u), of(api.VBondR, u, n), of(api.VPow, u, n))
		}
	}
	for _, n := range operands {
		out = append(out, of(api.VConst, n))
	}
	return out
}

func someOperands() []api.Term {
	return []api.Term{num(1), num(1, 2), num(-3), noun("a"), num(api.Min, api.Max), num(64)}
}

// TestKindsWithinKinds: verbs of every kind, of verbs of every kind; and the nouns and definitions of them.
func TestKindsWithinKinds(t *testing.T) {
	t.Parallel()
	ones := append(madeOf([]api.Term{prim("+"), verb("A")}, someOperands()), prim("["), verb("B2"), def(1), def(2))
	for _, u := range ones {
		checkBack(t, u)
		for _, v := range madeOf([]api.Term{u}, someOperands()[:2]) {
			checkBack(t, v)
		}
		for _, v := range ones {
			for _, w := range []api.Term{hook(u, v), of(api.VCap, u, v), fork(u, v, u), of(api.VAtop, u, v), of(api.VComp, u, v), of(api.VBoth, u, v), of(api.VAgenda, u, v), of(api.VAgenda, u, v, u), mon(u, mon(v, num(1)))} {
				checkBack(t, w)
			}
		}
		for _, n := range []api.Term{num(1), num(2, 3), noun("y"), mon(prim("-"), num(1)), dy(u, num(1), noun("y")), of(api.KPick, noun("y"), num(1))} {
			for _, m := range []api.Term{mon(u, n), dy(u, n, n), dy(u, num(4), n), dy(u, n, noun("a")), of(api.KPick, n, mon(u, n), n), dy(u, mon(u, n), n)} {
				checkBack(t, m)
				checkBack(t, def(1, say(m)))
				checkBack(t, def(2, set("x", m), of(api.SIf, m, body(say(m), set("a", n)), body()), of(api.SWhile, m, body(say(n), of(api.SIf, n, body(), body(say(m)))))))
			}
		}
	}
}

// TestPrimitivesBack: every primitive beside every other.
func TestPrimitivesBack(t *testing.T) {
	t.Parallel()
	all := spellings(t)
	for _, u := range all {
		for _, v := range all {
			u, v := prim(u), prim(v)
			for _, w := range []api.Term{hook(u, v), fork(u, v, u), of(api.VCap, u, v), of(api.VAgenda, u, v, u), of(api.VBondL, num(1), hook(u, v)), mon(u, mon(v, num(1))), def(1, say(dy(u, num(1), mon(v, noun("y")))))} {
				checkBack(t, w)
			}
			for kind := api.VAtop; kind <= api.VPowV; kind++ {
				checkBack(t, of(kind, u, v))
				checkBack(t, of(kind, of(api.VInsert, u), of(api.VSuffix, v)))
			}
			for kind := api.VInsert; kind <= api.VSwap; kind++ {
				checkBack(t, hook(of(kind, u), v))
			}
		}
	}
}

// TestGreatestBack: terms at the limits of nodes, depth, numbers and branches.
func TestGreatestBack(t *testing.T) {
	checkBack(t, deep(256))
	checkBack(t, def(1, slices.Repeat([]api.Term{say(noun("y"))}, 2047)...))
	list := slices.Repeat([]int64{api.Min}, api.MaxList)
	checkBack(t, num(list...))
	checkBack(t, of(api.VConst, num(list...)))
	checkBack(t, of(api.KPick, slices.Repeat([]api.Term{num(1)}, 17)...))
	checkBack(t, of(api.VAgenda, slices.Repeat([]api.Term{prim("+")}, 17)...))
	for _, n := range []int{0, 1, 30, 31} {
		checkBack(t, noun("a"+strings.Repeat("Z", n)))
		checkBack(t, verb("A"+strings.Repeat("z", n)))
	}
	// As many brackets as print may write about so deep a term: two at each node.
	chains := map[string]func(u api.Term) api.Term{
		"hooks on the right": func(u api.Term) api.Term { return hook(prim("+"), u) },
		"hooks on the left":  func(u api.Term) api.Term { return hook(u, prim("+")) },
		"atops":              func(u api.Term) api.Term { return of(api.VAtop, prim("+"), u) },
		"constants, trains":  func(u api.Term) api.Term { return hook(constant(1), of(api.VAtop, constant(2), u)) },
		"bonds and trains":   func(u api.Term) api.Term { return hook(constant(1), of(api.VBondL, num(2), u)) },
		"gerunds":            func(u api.Term) api.Term { return of(api.VAgenda, prim("+"), u, prim("-")) },
		"selectors":          func(u api.Term) api.Term { return of(api.VAgenda, of(api.VAgenda, u, prim("+"), prim("-")), prim("*")) },
		"agendas and trains": func(u api.Term) api.Term {
			return hook(constant(1), of(api.VAgenda, prim("+"), of(api.VBondL, num(2), u)))
		},
		"definitions": func(u api.Term) api.Term { return def(1, say(mon(u, noun("y")))) },
		"ifs":         func(u api.Term) api.Term { return def(2, of(api.SIf, mon(u, num(1)), body(), body())) },
		"whiles":      func(u api.Term) api.Term { return def(2, of(api.SWhile, num(1), body(set("a", mon(u, num(1)))))) },
		"picks":       func(u api.Term) api.Term { return def(2, say(of(api.KPick, num(1), mon(u, num(1))))) },
		"on the left": func(u api.Term) api.Term { return def(2, say(dy(prim("+"), mon(u, num(1)), num(2)))) },
	}
	for _, put := range chains {
		u := put(constant(1))
		for {
			_, depth := term.Size(put(u))
			if depth > api.MaxDepth {
				break
			}
			u = put(u)
		}
		checkBack(t, u)
		checkBack(t, of(api.VAtop, prim("+"), put(prim("+"))))
	}
	n := noun("y")
	for range 255 {
		n = dy(prim("+"), n, num(1))
	}
	checkBack(t, n)
	n = num(1)
	for range 255 {
		n = of(api.KPick, n, num(1))
	}
	checkBack(t, n)
}

// TestThrownBack: terms of all kinds within one another.
func TestThrownBack(t *testing.T) {
	t.Parallel()
	var d thrower
	for range 20000 {
		checkBack(t, d.thrown())
	}
}
