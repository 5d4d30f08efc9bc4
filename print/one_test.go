package print

import (
	"testing"

	"abacus/api"
	"abacus/term"
)

// madeOf are verbs of every kind, of these verbs and operands.
func madeOf(verbs, operands []api.Term) []api.Term {
	var out []api.Term
	for _, u := range verbs {
		for kind := api.VInsert; kind <= api.VSwap; kind++ {
			out = append(out, of(kind, u))
		}
		out = append(out, ranked(u, 1), ranked(u, 64), ranked(u, 1, 2), ranked(u, 64, 1), ranked(u, -1, 0, 64))
		out = append(out, def(1, say(mon(u, noun("y")))), def(2, say(mon(u, noun("y")))), def(1, say(mon(u, num(1)))))
		for _, v := range verbs {
			for kind := api.VAtop; kind <= api.VPowV; kind++ {
				out = append(out, of(kind, u, v))
			}
			out = append(out, of(api.VAgenda, u, v), of(api.VHook, u, v), of(api.VCap, u, v))
		}
		for _, n := range operands {
			out = append(out, of(api.VBondL, n, u), of(api.VBondR, u, n), of(api.VPow, u, n))
		}
	}
	for _, n := range operands {
		out = append(out, of(api.VConst, n))
	}
	return out
}

// inThrees are trains of three and agendas of two branches.
func inThrees(verbs []api.Term) []api.Term {
	var out []api.Term
	for _, u := range verbs {
		for _, v := range verbs {
			for _, w := range verbs {
				out = append(out, of(api.VFork, u, v, w), of(api.VAgenda, u, v, w))
			}
			out = append(out, of(api.VHook, u, v), of(api.VCap, u, v))
		}
	}
	return out
}

func smallVerbs() []api.Term {
	operands := []api.Term{num(1), num(2), num(1, 2), noun("a")}
	out := []api.Term{prim("+"), prim("["), verb("A"), verb("A1"), def(1), def(2)}
	out = append(out, madeOf([]api.Term{prim("+"), verb("A"), constant(1), of(api.VConst, noun("a"))}, operands)...)
	// Such as begin or end with a number, or both, beside one another and within brackets of their own.
	edges := []api.Term{prim("+"), constant(1), constant(2), of(api.VBondL, num(2), prim("+")), of(api.VBondR, prim("+"), num(1)), ranked(prim("+"), 1, 64)}
	out = append(out, inThrees(edges)...)
	for _, u := range []api.Term{of(api.VHook, constant(1), constant(2)), of(api.VBondL, num(1), constant(2)), of(api.VBondR, constant(1), num(2))} {
		out = append(out, madeOf([]api.Term{u}, operands)...)
		out = append(out, of(api.VHook, u, constant(2)), of(api.VHook, constant(1), u), of(api.VFork, constant(1), u, constant(2)))
	}
	return out
}

func smallNouns() []api.Term {
	out := []api.Term{num(1), num(2), num(1, 2), num(1, 2, 1), num(-1), num(64), noun("x"), noun("y"), noun("a1")}
	verbs := []api.Term{prim("+"), constant(1), constant(1, 2), of(api.VBondL, num(2), prim("+")), of(api.VBondR, prim("+"), num(1)), of(api.VBondR, prim("+"), num(1, 2)), ranked(prim("+"), 1), of(api.VHook, prim("+"), constant(1))}
	ones := []api.Term{num(1), num(1, 2), noun("y")}
	var twos []api.Term
	for _, v := range verbs {
		for _, n := range ones {
			twos = append(twos, mon(v, n))
			for _, m := range ones {
				twos = append(twos, dy(v, n, m))
			}
		}
	}
	twos = append(twos, of(api.KPick, num(1), num(2)), of(api.KPick, num(1), num(2), noun("y")))
	out = append(out, twos...)
	for _, n := range twos {
		for _, v := range verbs {
			out = append(out, mon(v, n), dy(v, num(1), n), dy(v, n, num(1)))
		}
	}
	return out
}

// checkAllPairs asks of each pair whether it has one text just if it is one term.
func checkAllPairs(t *testing.T, terms []api.Term) {
	t.Helper()
	texts := make([]string, len(terms))
	for i, a := range terms {
		s, e := text(a)
		if e != api.OK || s == "" {
			t.Fatalf("P14.3: %s: %s, %v", short(told(a)), short(s), e)
		}
		texts[i] = s
	}
	same := 0
	for i, a := range terms {
		for j := range i + 1 {
			is := term.Same(a, terms[j])
			if is != (texts[i] == texts[j]) {
				t.Fatalf("P14.3: %s and %s are written %s and %s", short(told(a)), short(told(terms[j])), texts[i], texts[j])
			}
			if is {
				same++
			}
		}
	}
	if same <= len(terms) {
		t.Errorf("the test itself: no two terms are the same")
	}
}

// TestAllPairs: many small terms, some of them twice.
func TestAllPairs(t *testing.T) {
	for _, terms := range [][]api.Term{smallVerbs(), smallNouns()} {
		for i := range len(terms) / 10 {
			terms = append(terms, clone(terms[10*i]))
		}
		checkAllPairs(t, terms)
	}
}

// TestAllBack: the small terms are read back as what they were.
func TestAllBack(t *testing.T) {
	for _, a := range append(smallVerbs(), smallNouns()...) {
		s, e := text(a)
		if e != api.OK || s != wanted(a) {
			t.Fatalf("P14.1, P14.2: %s, %v; wanted %s", short(s), e, short(wanted(a)))
		}
		if back := readBack(t, s); !term.Same(back, a) {
			t.Fatalf("P14.3: %s is the text of another term too: %s", short(s), short(told(back)))
		}
	}
}

// TestLookAlikes: terms that differ in one place that is easily lost.
func TestLookAlikes(t *testing.T) {
	plus, a := prim("+"), noun("a")
	for _, pair := range [][2]api.Term{
		{ranked(plus, 64), ranked(plus, 64, 64)}, {ranked(plus, 1), ranked(plus, 1, 1)}, {ranked(plus, 6, 4), ranked(plus, 64)}, {ranked(plus, 1), ranked(plus, -1)}, {ranked(ranked(plus, 1), 2), ranked(plus, 1, 2)}, {ranked(ranked(plus, 1), 2), ranked(ranked(plus, 2), 1)},
		{of(api.VBoth, of(api.VBoth, plus, plus), plus), of(api.VBoth, plus, of(api.VBoth, plus, plus))}, {of(api.VInsert, of(api.VAtop, plus, plus)), of(api.VAtop, plus, of(api.VInsert, plus))},
		{of(api.VBondR, plus, num(1)), of(api.VComp, plus, constant(1))}, {of(api.VPow, plus, num(1)), of(api.VPowV, plus, constant(1))}, {of(api.VBondL, a, plus), of(api.VComp, of(api.VConst, a), plus)}, {of(api.VBondL, a, plus), of(api.VComp, verb("A"), plus)}, {of(api.VConst, a), ranked(verb("A"), 64)},
		{of(api.VHook, plus, of(api.VFork, plus, plus, plus)), of(api.VFork, plus, plus, of(api.VHook, plus, plus))}, {of(api.VHook, prim("["), plus), of(api.VCap, prim("["), plus)}, {of(api.VCap, plus, plus), of(api.VHook, plus, plus)},
		{of(api.VAgenda, plus, plus), of(api.VAgenda, plus, plus, plus)}, {def(1), def(2)}, {def(1, say(a), say(a)), def(1, say(a))}, {of(api.VHook, constant(1), constant(2)), constant(1, 2)},
		{def(1, say(mon(def(1, say(a)), a))), def(1, set("a", a))}, {def(1, of(api.SIf, a, body(say(a)), body())), def(1, of(api.SIf, a, body(), body(say(a))))}, {def(1, of(api.SWhile, a, body(say(a))), say(a)), def(1, of(api.SWhile, a, body(say(a), say(a))))}, {def(1, of(api.SIf, a, body(), body())), def(1, of(api.SWhile, a, body()))},
		{dy(plus, num(1), num(2)), dy(plus, num(2), num(1))}, {dy(plus, dy(plus, a, a), a), dy(plus, a, dy(plus, a, a))}, {mon(constant(1), num(2)), num(1, 2)}, {mon(plus, mon(plus, a)), mon(of(api.VHook, plus, plus), a)}, {dy(plus, a, a), mon(plus, a)}, {num(1, 2), num(12)}, {num(1), num(-1)},
		{of(api.KPick, a, a, a), of(api.KPick, a, of(api.KPick, a, a))}, {of(api.KPick, of(api.KPick, a, a), a), of(api.KPick, a, of(api.KPick, a, a))},
		{mon(of(api.VBondR, plus, num(1)), num(2)), mon(of(api.VBondR, plus, num(1, 2)), a)}, {dy(constant(1), num(2), a), mon(constant(2, 1), a)},
	} {
		checkAllPairs(t, []api.Term{pair[0], pair[1], clone(pair[0]), clone(pair[1])})
	}
}
