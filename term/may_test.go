package term

import (
	"math"
	"strings"
	"testing"

	"abacus/api"
)

// noClasses are numbers of no class.
func noClasses() []int { return []int{0, 4, 5, -1, -2, -3, 257, 1<<32 + 1, math.MinInt, math.MaxInt} }

// TestOrder: ErrArg ahead of ErrLong, that ahead of ErrTerm, that ahead of ErrKind.
func TestOrder(t *testing.T) {
	for what, great := range greatTerms() {
		for _, class := range noClasses() {
			if e := May(great, class); e != api.ErrArg {
				t.Errorf("P13.3: May of %s, class %d: %v", what, class, e)
			}
		}
		for class := api.ClassNoun; class <= api.ClassVerb; class++ {
			if e := May(great, class); e != api.ErrLong {
				t.Errorf("P13.3: May of %s, class %d: %v", what, class, e)
			}
		}
	}
	for _, class := range noClasses() {
		checkMay(t, sign("+"), class, api.ErrArg)
		checkMay(t, sign("++"), class, api.ErrArg)
		checkMay(t, api.Term{}, class, api.ErrArg)
	}
	// Of a class other than the one asked for, and wrong besides.
	for class := api.ClassNoun; class <= api.ClassVerb; class++ {
		checkMay(t, sign("++"), class, api.ErrTerm)
		checkMay(t, noun("A"), class, api.ErrTerm)
		checkMay(t, body(body()), class, api.ErrTerm)
		checkMay(t, api.Term{Kind: 99}, class, api.ErrTerm)
	}
}

// TestGreatest: terms at the limits may be.
func TestGreatest(t *testing.T) {
	checkGood(t, deep(256))
	checkGood(t, longBody(4095))
	checkGood(t, folded(11))
	checkGood(t, arms(2))
	// Of 4096 nodes, to the last one, and one more.
	whole := body(append(repeated(say(noun("y")), 2045), say(of(api.KDy, sign("-"), noun("y"), noun("y"))))...)
	checkGood(t, whole)
	wrong := clone(whole)
	places(&wrong)[4095].Text = "Y"
	checkWrong(t, wrong)
	for class := api.ClassNoun; class <= api.ClassVerb; class++ {
		checkMay(t, of(api.VInsert, whole), class, api.ErrLong)
		checkMay(t, of(api.VInsert, wrong), class, api.ErrLong)
		checkMay(t, deep(257), class, api.ErrLong)
	}
}

// TestEachPlace: a node that is wrong at any place of a term makes it one that may not be.
func TestEachPlace(t *testing.T) {
	whole := rich()
	checkGood(t, whole)
	for at := range places(&whole) {
		for _, spoil := range []func(*api.Term){
			func(node *api.Term) { node.Kind = 99 },
			func(node *api.Term) { node.N += 7 },
			func(node *api.Term) { node.Text += "_" },
			func(node *api.Term) { node.Num.Shape = append(node.Num.Shape, 1) },
			func(node *api.Term) { node.Num.Atoms = append(node.Num.Atoms, 1, 2) },
			func(node *api.Term) { node.Kids = append(node.Kids, api.Term{}) },
		} {
			wrong := clone(whole)
			spoil(places(&wrong)[at])
			checkWrong(t, wrong)
		}
	}
}

// TestNames32: a name's bytes, one by one, and its length.
func TestNames32(t *testing.T) {
	small, capital, digits := "abcdefghijklmnopqrstuvwxyz", "ABCDEFGHIJKLMNOPQRSTUVWXYZ", "0123456789"
	check := func(a api.Term, good bool) {
		t.Helper()
		if good {
			checkGood(t, a)
		} else {
			checkWrong(t, a)
		}
	}
	for b := range 256 {
		text := string([]byte{byte(b)})
		within := strings.Contains(small+capital+digits, text)
		check(noun(text), strings.Contains(small, text))
		check(set(text, noun("a")), strings.Contains(small, text))
		check(verb(text), strings.Contains(capital, text))
		for _, behind := range []string{"", "z", "Z9"} {
			check(noun("a"+text+behind), within)
			check(set("a"+text+behind, noun("a")), within)
			check(verb("A"+text+behind), within)
			check(noun(text+behind), strings.Contains(small, text))
			check(verb(text+behind), strings.Contains(capital, text))
		}
		check(noun(strings.Repeat("a", 31)+text), within)
		check(verb(strings.Repeat("A", 31)+text), within)
	}
	for n := range 70 {
		check(noun(strings.Repeat("a", n)), n >= 1 && n <= 32)
		check(set(strings.Repeat("z", n), noun("a")), n >= 1 && n <= 32)
		check(verb(strings.Repeat("A", n)), n >= 1 && n <= 32)
	}
	check(noun(strings.Repeat("é", 16)), false)
	check(noun("a"+strings.Repeat("0", 31)), true)
	check(noun(strings.Repeat("a", 1<<20)), false)
	check(sign(strings.Repeat("+", 1<<20)), false)
}

// TestOperands: which nouns a verb may be made of.
func TestOperands(t *testing.T) {
	u := sign("+")
	makers := []func(n api.Term) api.Term{
		func(n api.Term) api.Term { return of(api.VConst, n) },
		func(n api.Term) api.Term { return of(api.VBondL, n, u) },
		func(n api.Term) api.Term { return of(api.VBondR, u, n) },
		func(n api.Term) api.Term { return of(api.VPow, u, n) },
	}
	for _, maker := range makers {
		for _, good := range []api.Term{num(nil, 5), list(2), list(64), noun("a"), noun("z"), noun("w"), noun("xx"), noun("yy"), noun("xy"), noun("x1"), noun("y0"), noun("xX"), noun(strings.Repeat("x", 32))} {
			checkGood(t, maker(good))
			checkGood(t, def(2, say(of(api.KMon, maker(good), noun("x")))))
			checkGood(t, def(1, say(of(api.KMon, maker(good), noun("y")))))
		}
		for _, wrong := range []api.Term{noun("x"), noun("y"), noun("X"), noun(""), noun(strings.Repeat("x", 33)), list(1), list(65), of(api.KMon, u, num(nil, 5)), of(api.KDy, u, num(nil, 5), noun("a")), of(api.KPick, noun("a"), noun("b")), say(noun("a")), body(), u, verb("A"), {}} {
			checkWrong(t, maker(wrong))
			checkWrong(t, def(2, say(of(api.KMon, maker(wrong), noun("y")))))
		}
	}
}

// TestX: in a definition of one argument stands no x, at any depth, but within another one of two.
func TestX(t *testing.T) {
	x, y, u := noun("x"), noun("y"), sign("+")
	// Where a noun may stand within a body, and a verb within a noun.
	nouns := []func(n api.Term) api.Term{
		func(n api.Term) api.Term { return body(say(n)) },
		func(n api.Term) api.Term { return body(say(y), set("a", n)) },
		func(n api.Term) api.Term { return body(of(api.SIf, n, body(), body())) },
		func(n api.Term) api.Term { return body(of(api.SIf, y, body(say(n)), body())) },
		func(n api.Term) api.Term { return body(of(api.SIf, y, body(), body(say(y), say(n)))) },
		func(n api.Term) api.Term { return body(of(api.SWhile, n, body())) },
		func(n api.Term) api.Term { return body(of(api.SWhile, y, body(set("b", n)))) },
		func(n api.Term) api.Term { return body(say(of(api.KMon, u, n))) },
		func(n api.Term) api.Term { return body(say(of(api.KDy, u, n, y))) },
		func(n api.Term) api.Term { return body(say(of(api.KDy, u, y, of(api.KMon, u, n)))) },
		func(n api.Term) api.Term { return body(say(of(api.KPick, n, y))) },
		func(n api.Term) api.Term { return body(say(of(api.KPick, y, y, n))) },
	}
	within := func(n int, sentences api.Term) api.Term {
		return api.Term{Kind: api.VDef, N: n, Kids: []api.Term{sentences}}
	}
	applied := func(v api.Term) api.Term { return of(api.KMon, of(api.VHook, u, of(api.VInsert, v)), y) }
	for _, outer := range nouns {
		checkGood(t, outer(x))
		checkGood(t, within(2, outer(x)))
		checkWrong(t, within(1, outer(x)))
		checkGood(t, within(1, outer(y)))
		checkGood(t, within(1, outer(noun("xx"))))
		for _, inner := range nouns {
			for _, outerN := range []int{1, 2} {
				checkWrong(t, within(outerN, outer(applied(within(1, inner(x))))))
				checkGood(t, within(outerN, outer(applied(within(2, inner(x))))))
				checkGood(t, within(outerN, outer(applied(within(1, inner(y))))))
				// Three within one another: the innermost one says.
				checkGood(t, within(outerN, outer(applied(within(1, inner(applied(within(2, outer(x)))))))))
				checkWrong(t, within(outerN, outer(applied(within(2, inner(applied(within(1, outer(x)))))))))
			}
		}
	}
	checkX(t)
}

// checkX: what is set, what stands beside a definition, and x that is no noun's name.
func checkX(t *testing.T) {
	t.Helper()
	x, y := noun("x"), noun("y")
	inner := of(api.KMon, def(2, say(x)), y)
	for _, good := range []api.Term{
		set("x", y), say(x), body(set("x", x)), of(api.KMon, def(1, say(y)), x), of(api.KDy, def(1), x, x), body(say(of(api.KMon, def(1, say(y)), x)), say(x)),
		def(2, set("x", y)), def(1, set("y", y)), def(1, set("xx", y)), def(1, say(inner)), def(1, say(of(api.KMon, def(2, set("x", y)), y))),
		def(2, say(of(api.KMon, def(1, say(y)), x))), def(2, say(of(api.KMon, def(1), y)), say(x)), of(api.VHook, def(1), def(2, say(x))), def(1, say(of(api.KMon, verb("X"), y))),
	} {
		checkGood(t, good)
	}
	for _, wrong := range []api.Term{
		def(1, set("x", y)), def(1, say(y), set("x", y)), def(1, set("a", x)), def(1, of(api.SIf, y, body(set("x", y)), body())), def(1, of(api.SWhile, y, body(set("x", y)))),
		def(1, say(inner), say(x)), def(1, say(x), say(inner)), def(1, say(of(api.KDy, def(2, say(x)), x, y))), def(2, say(of(api.KMon, def(1, set("x", y)), y))),
		of(api.VHook, def(2, say(x)), def(1, say(x))), of(api.VInsert, def(1, say(x))), body(say(of(api.KMon, def(1, say(x)), x))),
	} {
		checkWrong(t, wrong)
	}
}
