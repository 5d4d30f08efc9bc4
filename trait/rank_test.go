package trait

import (
	"testing"

	"abacus/api"
)

// row is a primitive as the catalogue has it: its ranks, and in which valences it is total.
type row struct {
	spelling      string
	ranks         [3]int
	monad, dyad   bool // it has that valence
	always, pairs bool // it is total as a monad, as a dyad
}

// catalogue tells all primitives, in the order of their numbers.
func catalogue() []row {
	return []row{
		{"+", [3]int{0, 0, 0}, true, true, true, false},
		{"-", [3]int{0, 0, 0}, true, true, false, false},
		{"*", [3]int{0, 0, 0}, true, true, true, false},
		{"%", [3]int{0, 0, 0}, false, true, false, false},
		{"|", [3]int{0, 0, 0}, true, true, false, false},
		{"<.", [3]int{0, 0, 0}, true, true, true, false},
		{">.", [3]int{0, 0, 0}, true, true, true, false},
		{"<", [3]int{0, 0, 0}, false, true, false, false},
		{">", [3]int{0, 0, 0}, false, true, false, false},
		{"=", [3]int{64, 0, 0}, true, true, false, false},
		{"~:", [3]int{64, 0, 0}, true, true, true, false},
		{"<:", [3]int{0, 0, 0}, true, true, false, false},
		{">:", [3]int{0, 0, 0}, true, true, false, false},
		{"+.", [3]int{0, 0, 0}, false, true, false, false},
		{"*.", [3]int{0, 0, 0}, false, true, false, false},
		{"+:", [3]int{0, 0, 0}, true, true, false, false},
		{"*:", [3]int{0, 0, 0}, true, true, false, false},
		{"-.", [3]int{0, 64, 64}, true, true, false, true},
		{"-:", [3]int{0, 64, 64}, true, true, false, true},
		{"^", [3]int{0, 0, 0}, false, true, false, false},
		{"!", [3]int{0, 0, 0}, true, true, false, false},
		{"#", [3]int{64, 1, 64}, true, true, true, false},
		{"$", [3]int{64, 1, 64}, true, true, true, false},
		{",", [3]int{64, 64, 64}, true, true, true, false},
		{",.", [3]int{64, 64, 64}, true, true, true, false},
		{",:", [3]int{64, 64, 64}, true, true, false, false},
		{"{", [3]int{0, 0, 64}, false, true, false, false},
		{"{.", [3]int{64, 1, 64}, true, true, true, false},
		{"}.", [3]int{64, 1, 64}, true, true, true, false},
		{"{:", [3]int{64, 0, 0}, true, false, true, false},
		{"}:", [3]int{64, 0, 0}, true, false, true, false},
		{"|.", [3]int{64, 1, 64}, true, true, true, false},
		{"|:", [3]int{64, 1, 64}, true, true, true, false},
		{"i.", [3]int{1, 64, 64}, true, true, false, true},
		{"e.", [3]int{0, 64, 64}, false, true, false, true},
		{"~.", [3]int{64, 0, 0}, true, false, true, false},
		{"/:", [3]int{64, 64, 64}, true, true, true, false},
		{"\\:", [3]int{64, 64, 64}, true, true, true, false},
		{"#.", [3]int{1, 1, 1}, true, true, false, false},
		{"#:", [3]int{64, 1, 0}, true, true, false, false},
		{"[", [3]int{64, 64, 64}, true, true, true, true},
		{"]", [3]int{64, 64, 64}, true, true, true, true},
		{"I.", [3]int{1, 0, 0}, true, false, false, false},
	}
}

// TestRanksOfPrimitives: each one's three ranks; 0, where it has not that valence.
func TestRanksOfPrimitives(t *testing.T) {
	rows := catalogue()
	if len(rows) != api.Prims {
		t.Fatalf("the test itself: %d rows", len(rows))
	}
	for _, r := range rows {
		checkRanks(t, sign(r.spelling), r.ranks)
		if !r.monad && r.ranks[0] != 0 || !r.dyad && (r.ranks[1] != 0 || r.ranks[2] != 0) {
			t.Errorf("the test itself: %s has ranks of a valence that it has not", r.spelling)
		}
	}
}

// ranks is an operand with its ranks.
type ranks struct {
	t    api.Term
	want [3]int
}

// operands are verbs whose three ranks are told apart, negative ones and infinite ones among them.
func operands() []ranks {
	out := []ranks{
		{ranked(sign("+"), 1, 2, 3), [3]int{1, 2, 3}},
		{ranked(sign("+"), -1, 0, 64), [3]int{-1, 0, 64}},
		{ranked(sign("$"), 64, -8, 8), [3]int{64, -8, 8}},
		{ranked(sign("$"), 5, 64), [3]int{64, 5, 64}},
		{ranked(sign("]"), -3), [3]int{-3, -3, -3}},
		{verb("Mean"), [3]int{64, 64, 64}},
	}
	for _, r := range catalogue() {
		out = append(out, ranks{sign(r.spelling), r.ranks})
	}
	return out
}

// TestRanksOfOne: kinds with one verb, and with a verb and an operand.
func TestRanksOfOne(t *testing.T) {
	inf := [3]int{64, 64, 64}
	for _, u := range operands() {
		for _, kind := range []int{api.VInsert, api.VPrefix, api.VSuffix} {
			checkRanks(t, of(kind, u.t), inf)
		}
		checkRanks(t, of(api.VSwap, u.t), [3]int{64, u.want[2], u.want[1]})
		checkRanks(t, of(api.VSwap, of(api.VSwap, u.t)), [3]int{64, u.want[1], u.want[2]})
		for _, n := range []api.Term{num(0), num(1, 2), num(-1), noun("a")} {
			checkRanks(t, of(api.VBondL, n, u.t), [3]int{u.want[2], 64, 64})
			checkRanks(t, of(api.VBondR, u.t, n), [3]int{u.want[1], 64, 64})
			checkRanks(t, of(api.VPow, u.t, n), inf)
			checkRanks(t, of(api.VConst, n), inf)
		}
	}
}

// TestRanksOfTwo: kinds with two verbs, of all pairs of operands.
func TestRanksOfTwo(t *testing.T) {
	inf := [3]int{64, 64, 64}
	for _, u := range operands() {
		for _, v := range operands() {
			three := [3]int{v.want[0], v.want[0], v.want[0]}
			checkRanks(t, of(api.VAtop, u.t, v.t), v.want)
			checkRanks(t, of(api.VComp, u.t, v.t), three)
			checkRanks(t, of(api.VUnder, u.t, v.t), three)
			checkRanks(t, of(api.VObv, u.t, v.t), u.want)
			checkRanks(t, of(api.VBoth, u.t, v.t), [3]int{u.want[0], v.want[1], v.want[2]})
			for _, kind := range []int{api.VAt, api.VApp, api.VUnderAll, api.VDot, api.VAdverse, api.VPowV, api.VHook, api.VCap, api.VAgenda} {
				checkRanks(t, of(kind, u.t, v.t), inf)
			}
			checkRanks(t, of(api.VFork, u.t, v.t, u.t), inf)
			checkRanks(t, of(api.VAgenda, u.t, v.t, u.t, v.t), inf)
		}
	}
}

// TestRanksTold: one, two and three ranks, whatever the verb.
func TestRanksTold(t *testing.T) {
	list := []int64{64}
	for r := int64(-8); r <= 8; r++ {
		list = append(list, r)
	}
	for _, u := range []api.Term{sign("+"), sign("{"), verb("A"), ranked(sign("$"), 1, 2, 3), def(1, say(noun("y")))} {
		for _, a := range list {
			checkRanks(t, ranked(u, a), [3]int{int(a), int(a), int(a)})
			for _, b := range list {
				checkRanks(t, ranked(u, a, b), [3]int{int(b), int(a), int(b)})
				for _, c := range list {
					checkRanks(t, ranked(u, a, b, c), [3]int{int(a), int(b), int(c)})
				}
			}
		}
	}
}

// TestRanksOfOthers: names and definitions, whatever they mean.
func TestRanksOfOthers(t *testing.T) {
	inf := [3]int{64, 64, 64}
	for _, v := range []api.Term{verb("A"), verb("Mean"), def(1), def(2), def(1, say(mon(sign("+"), noun("y")))), def(2, set("a", num(1)), say(noun("x")))} {
		checkRanks(t, v, inf)
		checkRanks(t, of(api.VAtop, sign("+"), v), inf)
		checkRanks(t, of(api.VComp, sign("+"), v), inf)
		checkRanks(t, ranked(v, 1, 0), [3]int{0, 1, 0})
	}
}

// TestRanksWithin: what an operand's operand has comes through kinds within one another.
func TestRanksWithin(t *testing.T) {
	for s, want := range map[string][3]int{
		`2&(+"0 1 2)`: {2, 64, 64}, `(+"0 1 2)&2`: {1, 64, 64}, `2&((+"0 1 2)~)`: {1, 64, 64}, `((+"0 1 2)~)&2`: {2, 64, 64},
		`((+"0 1 2) : -)~`: {64, 0, 0}, `(- : (+"0 1 2))~`: {64, 2, 1}, `2&(- : (+"3 4 5))`: {5, 64, 64}, `(+"3 4 5 : -)&2`: {0, 64, 64},
		`-@(2&(+"0 1 _2))`: {-2, 64, 64}, `-&(2&(+"0 1 _2))`: {-2, -2, -2}, `-&.(2&+)`: {0, 0, 0}, `-@((+"0 1 2)~)`: {64, 2, 1}, `(-@{) :. +`: {0, 0, 64},
		`-&(-@(+"1 2 3))`: {1, 1, 1}, `-&((+"1 2 3) : -)`: {1, 1, 1}, `-@((+"1 2 3) :. ])`: {1, 2, 3}, `(2&{) : ($&1)`: {64, 64, 64}, `({&2) : {`: {0, 0, 64},
		`(+"1)"2 3`: {3, 2, 3}, `+/"1`: {1, 1, 1}, `(+"1)/`: {64, 64, 64}, `-@(+/)`: {64, 64, 64}, `-@:(+"1)`: {64, 64, 64},
	} {
		checkRanks(t, read(t, s), want)
	}
	// As deep as it may be, and as many nodes.
	checkRanks(t, nested(api.VSwap, 256, sign("{")), [3]int{64, 64, 0})
	checkRanks(t, nested(api.VSwap, 255, sign("{")), [3]int{64, 0, 64})
	checkRanks(t, folded(api.VBoth, 11, sign("#:")), [3]int{64, 1, 0})
	checkRanks(t, folded(api.VAtop, 11, sign("{")), [3]int{0, 0, 64})
	checkRanks(t, folded(api.VComp, 11, sign("i.")), [3]int{1, 1, 1})
	deep := sign("#:")
	for range 254 {
		deep = of(api.VAtop, sign("+"), deep)
	}
	checkRanks(t, deep, [3]int{64, 1, 0})
}
