package term

import (
	"math"
	"slices"
	"strings"
	"testing"

	"abacus/api"
)

// goodNodes are terms of every kind that may be, none of them within a definition.
func goodNodes() []api.Term {
	u, v, w, n, a := sign("+"), verb("Mean"), def(1, say(noun("y"))), num(nil, 5), noun("a")
	out := []api.Term{
		n, num(nil, math.MinInt64), num(lengths(), 0), list(2), list(3), list(63), list(64), num(lengths(2), math.MinInt64, math.MaxInt64),
		a, noun("x"), noun("y"), noun("total"), noun("aB9"), noun("x1"), noun("xx"),
		of(api.KMon, u, n), of(api.KMon, v, noun("x")), of(api.KMon, w, of(api.KMon, u, a)),
		of(api.KDy, u, n, a), of(api.KDy, v, noun("x"), noun("y")), of(api.KDy, w, of(api.KPick, n, a), of(api.KDy, u, n, n)),
		of(api.KPick, n, a), of(api.KPick, noun("x"), noun("y"), list(2)), of(api.KPick, repeated(n, 17)...),
		say(n), say(noun("x")), say(of(api.KMon, u, n)),
		set("a", n), set("x", noun("x")), set("y", of(api.KMon, u, n)), set("aB9", a),
		of(api.SIf, n, body(), body()), of(api.SIf, noun("x"), body(say(n)), body(say(a), set("x", n))),
		of(api.SWhile, n, body()), of(api.SWhile, noun("x"), body(say(n), say(a))),
		body(), body(say(n)), body(say(n), set("a", n), of(api.SIf, n, body(), body()), of(api.SWhile, n, body())),
		u, v, verb("A"), verb("X"), verb("NB"), verb("Ab9Z"),
		of(api.VConst, n), of(api.VConst, list(64)), of(api.VConst, a), of(api.VConst, noun("xy")),
		def(1), def(2), def(1, say(noun("y"))), def(2, say(noun("x")), set("x", noun("y"))), def(1, set("y", n)),
		of(api.VBondL, n, u), of(api.VBondL, a, v), of(api.VBondR, u, list(2)), of(api.VBondR, w, a), of(api.VPow, u, n), of(api.VPow, v, noun("k")), of(api.VPow, w, list(2)),
		ranked(u, 0), ranked(v, -8, 8), ranked(w, 64, -1, 1), ranked(u, 8), ranked(u, 64, 64, 64), ranked(u, -8, -8, -8),
		of(api.VAgenda, u, v), of(api.VAgenda, u, v, w), of(api.VAgenda, repeated(u, 17)...),
		of(api.VFork, u, v, w), of(api.VFork, w, u, u),
	}
	for kind := api.VInsert; kind <= api.VSwap; kind++ {
		out = append(out, of(kind, u), of(kind, v), of(kind, w))
	}
	for _, kind := range append([]int{api.VHook, api.VCap}, from(api.VAtop, api.VPowV)...) {
		out = append(out, of(kind, u, v), of(kind, v, w), of(kind, w, u))
	}
	return append(out, rich())
}

func from(first, last int) []int {
	var out []int
	for n := first; n <= last; n++ {
		out = append(out, n)
	}
	return out
}

// TestGoodNodes: every kind is among them, and each may be.
func TestGoodNodes(t *testing.T) {
	seen := map[int]int{}
	for _, good := range goodNodes() {
		checkGood(t, good)
		seen[good.Kind]++
	}
	for _, kind := range slices.Concat(from(1, 5), from(10, 14), from(20, 46)) {
		if seen[kind] == 0 {
			t.Errorf("the test itself: no node of kind %d", kind)
		}
	}
	for _, spelling := range strings.Fields("+ - * % | <. >. < > = ~: <: >: +. *. +: *: -. -: ^ ! # $ , ,. ,: { {. }. {: }: |. |: i. e. ~. /: \\: #. #: [ ] I.") {
		checkGood(t, sign(spelling))
	}
}

// TestNoKind: a kind that there is not may not be, whatever it has.
func TestNoKind(t *testing.T) {
	for _, kind := range otherKinds() {
		checkWrong(t, api.Term{Kind: kind})
		checkWrong(t, of(kind, sign("+")))
		checkWrong(t, of(api.VHook, sign("+"), api.Term{Kind: kind}))
		checkWrong(t, body(api.Term{Kind: kind}))
	}
	for _, good := range goodNodes() {
		for _, kind := range []int{0, 6, 9, 15, 19, 47, -1} {
			good.Kind = kind
			checkWrong(t, good)
		}
	}
}

// wrongTexts are texts that no node of a kind may have.
func wrongTexts(kind int) []string {
	long := strings.Repeat("a", 33)
	switch kind {
	case api.KName, api.SSet:
		return append(strings.Split("|A|Aa|X|Mean|1|1a|_|_a|a_|a_b|a.|a:|i.|.a| a|a |a b|+|a+|é|aé|\xff|a\xff|\x00|a\x00|a\n|`|{|a`|a{|a[|a@|a/", "|"), long, long+long, "b"+long)
	case api.VName:
		return append(strings.Split("|a|aB|x|y|1|1A|_|_A|A_|A_b|A.|I.|.A| A|A |A b|+|A+|É|Aé|\xff|A\xff|\x00|A\x00|A\n|@|[|A@|A[|A`|A{|A/|A:", "|"), strings.ToUpper(long), "A"+long)
	case api.VPrim:
		return append(strings.Fields("++ a x A Mean i e I =. =: / \\ \\. ~ @ @: @. & &: &. &.: .. :: :. : ^: \" ` [: ( ) {{ }} } +- <.: i.. I: i: .+ %. %: 1 _ 5 ]] é"), "", " ", "+ ", " +", "+\x00", "+\n", "\xff", long)
	}
	return []string{"x", "y", "a", "A", "Mean", "+", " ", "\x00", "0", "\xff", long}
}

// TestTexts: a node that is as it should be but for its text.
func TestTexts(t *testing.T) {
	for _, good := range goodNodes() {
		for _, text := range wrongTexts(good.Kind) {
			wrong := good
			wrong.Text = text
			checkWrong(t, wrong)
		}
	}
}

// TestNumbers: a node that is as it should be but for N.
func TestNumbers(t *testing.T) {
	ns := []int{0, 1, 2, 3, 4, -1, -2, 256, 257, 1<<32 + 1, 1<<32 + 2, math.MinInt, math.MaxInt}
	for _, good := range goodNodes() {
		for _, n := range ns {
			if n == good.N || good.Kind == api.VDef && (n == 1 || n == 2) {
				continue
			}
			wrong := good
			wrong.N = n
			checkWrong(t, wrong)
		}
	}
}

// wrongArrays are arrays that no node of a kind may have.
func wrongArrays(kind int) []api.Array {
	empties := []api.Array{array(lengths(0)), array(lengths(0, 0)), array(lengths(2, 0)), array(lengths(-1)), array(lengths(math.MinInt)), array(lengths(math.MaxInt)), array(lengths(2)), array(lengths(1))}
	uneven := []api.Array{array(lengths(0), 5), array(lengths(1), 5, 6), array(lengths(2), 5), array(lengths(2), 1, 2, 3), array(lengths(3), 1, 2), array(lengths(-2), 1, 2), array(lengths(-1), 5), array(lengths(math.MaxInt), 1, 2), array(nil, 1, 2), array(nil, 1, 2, 3), array(lengths(), 1, 2)}
	tables := []api.Array{array(lengths(1, 1), 5), array(lengths(1, 2), 1, 2), array(lengths(2, 1), 1, 2), array(lengths(2, 2), 1, 2, 3, 4), array(lengths(1, 1, 1), 1), array(lengths(3, 1), 1, 2, 3), array(lengths(1, 1, 1, 1, 1, 1, 1, 1, 1), 5)}
	wrong := slices.Concat(empties, uneven, tables)
	switch kind {
	case api.KNum:
		return append(wrong, api.Array{}, array(lengths(1), 5), list(65).Num, list(66).Num, list(4096).Num, list(4097).Num)
	case api.VRank:
		return append(wrong, api.Array{}, array(nil, 1), array(lengths(), 64), array(lengths(4), 0, 0, 0, 0), array(lengths(5), 1, 1, 1, 1, 1), array(lengths(64), list(64).Num.Atoms...))
	}
	return append(wrong, array(nil, 0), array(nil, 5), array(lengths(1), 1), array(lengths(2), 1, 2), list(64).Num)
}

// TestArrays: a node that is as it should be but for Num.
func TestArrays(t *testing.T) {
	for _, good := range goodNodes() {
		for _, a := range wrongArrays(good.Kind) {
			wrong := good
			wrong.Num = a
			checkWrong(t, wrong)
		}
	}
}

// TestLengths: a KNum's list at all lengths about the ends.
func TestLengths(t *testing.T) {
	for n := range 70 {
		if n >= 2 && n <= 64 {
			checkGood(t, list(n))
		} else {
			checkWrong(t, list(n))
		}
	}
	for _, n := range []int64{0, 1, -1, 63, 64, math.MinInt64, math.MaxInt64} {
		checkGood(t, num(nil, n))
		checkGood(t, num(lengths(3), 1, n, n))
	}
}

// TestRanks: a rank at each place of a list of ranks.
func TestRanks(t *testing.T) {
	good := append([]int64{64}, list(8).Num.Atoms...)
	for n := range int64(9) {
		good = append(good, -n)
	}
	wrong := []int64{-9, -10, -64, -65, -63, 9, 10, 63, 65, 66, 128, 255, 256, 1 << 32, 1<<32 + 8, 1<<32 + 64, math.MinInt64, math.MinInt64 + 64, math.MaxInt64}
	for length := 1; length <= 3; length++ {
		for at := range length {
			ranks := make([]int64, length)
			for _, rank := range good {
				ranks[at] = rank
				checkGood(t, ranked(sign("+"), ranks...))
			}
			for _, rank := range wrong {
				ranks[at] = rank
				checkWrong(t, ranked(sign("+"), ranks...))
			}
		}
	}
}

// someKids are kids of all classes, some of them no kid of anything.
func someKids() []api.Term {
	return []api.Term{
		num(nil, 5), list(3), list(1), noun("a"), noun("x"), noun("y"), noun("X"), of(api.KMon, sign("+"), noun("a")), of(api.KDy, sign("+"), noun("x"), noun("y")), of(api.KPick, noun("a"), noun("b")),
		say(noun("a")), set("a", noun("y")), set("x", noun("y")), of(api.SIf, noun("a"), body(), body()), of(api.SWhile, noun("a"), body()), body(), body(say(noun("x"))), body(body()),
		sign("+"), sign("++"), verb("Mean"), verb("mean"), of(api.VConst, noun("a")), of(api.VConst, noun("x")), def(1, say(noun("y"))), def(1, say(noun("x"))), def(2, say(noun("x"))), ranked(sign("+"), 1), of(api.VInsert, sign("+")),
		{}, {Kind: 99}, {Kind: -1},
	}
}

// TestKids: a node that is as it should be but for its kids: one less, one more, one of another kind, two that have changed their places.
func TestKids(t *testing.T) {
	good, wrong := 0, 0
	check := func(a api.Term) {
		if checkAgainstTable(t, a) {
			good++
		} else {
			wrong++
		}
	}
	for _, node := range goodNodes()[:len(goodNodes())-1] {
		for at := range len(node.Kids) + 1 {
			other := node
			for _, kid := range someKids() {
				other.Kids = slices.Insert(slices.Clone(node.Kids), at, kid)
				check(other)
				if at < len(node.Kids) {
					other.Kids = slices.Clone(node.Kids)
					other.Kids[at] = kid
					check(other)
				}
			}
			if at < len(node.Kids) {
				other.Kids = slices.Delete(slices.Clone(node.Kids), at, at+1)
				check(other)
				other.Kids = slices.Clone(node.Kids)
				other.Kids[0], other.Kids[at] = other.Kids[at], other.Kids[0]
				check(other)
			}
		}
	}
	if good < 1000 || wrong < 1000 {
		t.Errorf("the test itself: %d terms that may be, %d that may not", good, wrong)
	}
}

// TestWrongKids: kids that the table does not name, without the table's help.
func TestWrongKids(t *testing.T) {
	u, n, a, x, y := sign("+"), num(nil, 5), noun("a"), noun("x"), noun("y")
	for _, wrong := range []api.Term{
		of(api.KNum, n), of(api.KName, a), of(api.VPrim, u), of(api.VName, u),
		of(api.KMon), of(api.KMon, u), of(api.KMon, n, u), of(api.KMon, n, n), of(api.KMon, u, u), of(api.KMon, u, n, n), of(api.KMon, u, body()),
		of(api.KDy), of(api.KDy, u, n), of(api.KDy, n, u, n), of(api.KDy, u, n, u), of(api.KDy, u, n, n, n), of(api.KDy, n, n, n),
		of(api.KPick), of(api.KPick, n), of(api.KPick, u, n), of(api.KPick, n, u), of(api.KPick, n, n, say(n)), of(api.KPick, repeated(n, 18)...),
		of(api.SSay), say(u), say(say(n)), of(api.SSay, n, n), say(body()),
		set("a", u), set("a", say(n)), {Kind: api.SSet, Text: "a"}, {Kind: api.SSet, Text: "a", Kids: []api.Term{n, n}},
		of(api.SIf), of(api.SIf, n), of(api.SIf, n, body()), of(api.SIf, n, body(), body(), body()), of(api.SIf, u, body(), body()), of(api.SIf, n, say(n), body()), of(api.SIf, n, body(), say(n)), of(api.SIf, body(), n, body()),
		of(api.SWhile), of(api.SWhile, n), of(api.SWhile, n, body(), body()), of(api.SWhile, u, body()), of(api.SWhile, n, say(n)), of(api.SWhile, body(), n),
		body(body()), body(say(n), body()), body(n), body(u), body(say(n), n),
		of(api.VConst), of(api.VConst, u), of(api.VConst, x), of(api.VConst, y), of(api.VConst, a, a), of(api.VConst, of(api.KMon, u, n)), of(api.VConst, of(api.KPick, n, n)),
		{Kind: api.VDef, N: 1}, {Kind: api.VDef, N: 2, Kids: []api.Term{say(y)}}, {Kind: api.VDef, N: 1, Kids: []api.Term{body(), body()}}, {Kind: api.VDef, N: 1, Kids: []api.Term{y}}, {Kind: api.VDef, N: 1, Kids: []api.Term{u}},
		of(api.VBondL), of(api.VBondL, u, n), of(api.VBondL, n, n), of(api.VBondL, u, u), of(api.VBondL, x, u), of(api.VBondL, y, u), of(api.VBondL, n, u, u), of(api.VBondL, n),
		of(api.VBondR), of(api.VBondR, n, u), of(api.VBondR, n, n), of(api.VBondR, u, u), of(api.VBondR, u, x), of(api.VBondR, u, y), of(api.VBondR, u, n, n), of(api.VBondR, u),
		of(api.VPow), of(api.VPow, n, u), of(api.VPow, n, n), of(api.VPow, u, u), of(api.VPow, u, x), of(api.VPow, u, y), of(api.VPow, u, n, n), of(api.VPow, u),
		of(api.VAgenda), of(api.VAgenda, u), of(api.VAgenda, u, n), of(api.VAgenda, n, u), of(api.VAgenda, repeated(u, 18)...),
		of(api.VFork), of(api.VFork, u, u), of(api.VFork, u, u, u, u), of(api.VFork, n, u, u), of(api.VFork, u, n, u), of(api.VFork, u, u, n),
	} {
		checkWrong(t, wrong)
	}
	for _, kids := range [][]api.Term{{}, {u, u}, {n}, {a}, {say(n)}, {body()}, {{}}} {
		for _, kind := range from(api.VInsert, api.VSwap) {
			checkWrong(t, of(kind, kids...))
		}
		wrong := ranked(u, 1)
		wrong.Kids = kids
		checkWrong(t, wrong)
	}
	for _, kind := range append([]int{api.VHook, api.VCap}, from(api.VAtop, api.VPowV)...) {
		for _, kids := range [][]api.Term{{}, {u}, {u, u, u}, {n, u}, {u, n}, {a, u}, {u, a}, {u, say(n)}, {body(), u}, {u, {}}} {
			checkWrong(t, of(kind, kids...))
		}
	}
}
