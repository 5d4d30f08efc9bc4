package trait

import (
	"testing"

	"abacus/api"
)

// TestTotalPrimitives: each one in both valences.
func TestTotalPrimitives(t *testing.T) {
	count := [2]int{}
	for _, r := range catalogue() {
		checkBoth(t, sign(r.spelling), r.always, r.pairs)
		if r.always {
			count[0]++
		}
		if r.pairs {
			count[1]++
		}
	}
	if count != [2]int{20, 6} {
		t.Errorf("the test itself: %v primitives are total", count)
	}
}

// four are verbs that are total in both valences, in the first, in the second, in none.
func four() []struct {
	t    api.Term
	m, d bool
} {
	return []struct {
		t    api.Term
		m, d bool
	}{{sign("]"), true, true}, {sign("#"), true, false}, {sign("-:"), false, true}, {sign("-"), false, false}}
}

// TestTotalOfOne: kinds with one verb, each verb total or not in each valence.
func TestTotalOfOne(t *testing.T) {
	for _, u := range four() {
		checkBoth(t, of(api.VSwap, u.t), u.d, u.d)
		for _, kind := range []int{api.VInsert, api.VPrefix, api.VSuffix} {
			checkBoth(t, of(kind, u.t), false, false)
		}
		for _, n := range []api.Term{num(0), num(5), num(1, 2), noun("a")} {
			checkBoth(t, of(api.VBondL, n, u.t), false, false)
			checkBoth(t, of(api.VBondR, u.t, n), false, false)
		}
	}
}

// TestTotalOfTwo: kinds with two verbs, each of them total or not in each valence.
func TestTotalOfTwo(t *testing.T) {
	for _, u := range four() {
		for _, v := range four() {
			checkBoth(t, of(api.VAt, u.t, v.t), v.m && u.m, v.d && u.m)
			checkBoth(t, of(api.VCap, u.t, v.t), v.m && u.m, v.d && u.m)
			checkBoth(t, of(api.VApp, u.t, v.t), v.m && u.m, v.m && u.d)
			checkBoth(t, of(api.VHook, u.t, v.t), v.m && u.d, v.m && u.d)
			checkBoth(t, of(api.VAdverse, u.t, v.t), u.m || v.m, u.d || v.d)
			checkBoth(t, of(api.VObv, u.t, v.t), u.m, u.d)
			checkBoth(t, of(api.VBoth, u.t, v.t), u.m, v.d)
			for _, kind := range []int{api.VAtop, api.VComp, api.VUnder, api.VUnderAll, api.VDot, api.VPowV, api.VAgenda} {
				checkBoth(t, of(kind, u.t, v.t), false, false)
			}
			checkBoth(t, of(api.VAgenda, u.t, v.t, u.t), false, false)
			for _, w := range four() {
				checkBoth(t, of(api.VFork, u.t, v.t, w.t), u.m && v.d && w.m, u.d && v.d && w.d)
			}
		}
	}
}

// TestTotalConstants: of numbers, not of names.
func TestTotalConstants(t *testing.T) {
	for _, n := range []api.Term{num(0), num(5), num(-1), num(api.Min), num(1, 2), num(make([]int64, 64)...)} {
		checkBoth(t, of(api.VConst, n), true, true)
	}
	for _, name := range []string{"a", "total", "x1", "yy"} {
		checkBoth(t, of(api.VConst, noun(name)), false, false)
	}
}

// TestTotalPowers: no time, whatever the verb; a number of times above it as the verb is; nothing else.
func TestTotalPowers(t *testing.T) {
	others := []api.Term{verb("A"), of(api.VInsert, sign("]")), of(api.VConst, noun("a")), def(1), sign("%")}
	for _, u := range four() {
		checkBoth(t, of(api.VPow, u.t, num(0)), true, true)
		for _, n := range []int64{1, 2, 3, 64, 1 << 32, api.Max} {
			checkBoth(t, of(api.VPow, u.t, num(n)), u.m, u.d)
		}
		for _, n := range []api.Term{num(-1), num(-2), num(api.Min), num(0, 0), num(1, 2), num(0, 1), num(5, 0, 3), noun("a"), noun("n0")} {
			checkBoth(t, of(api.VPow, u.t, n), false, false)
		}
	}
	for _, u := range others {
		checkBoth(t, of(api.VPow, u, num(0)), true, true)
		checkBoth(t, of(api.VPow, u, num(1)), false, false)
		checkBoth(t, of(api.VPow, u, num(-1)), false, false)
	}
}

// TestTotalRanks: those that the valence asks for are infinite, and the verb is total in it.
func TestTotalRanks(t *testing.T) {
	list := []int64{64, 8, 0, 1, -1, -8}
	for _, u := range four() {
		for _, a := range list {
			checkBoth(t, ranked(u.t, a), u.m && a == 64, u.d && a == 64)
			for _, b := range list {
				checkBoth(t, ranked(u.t, a, b), u.m && b == 64, u.d && a == 64 && b == 64)
				for _, c := range list {
					checkBoth(t, ranked(u.t, a, b, c), u.m && a == 64, u.d && b == 64 && c == 64)
				}
			}
		}
	}
	checkBoth(t, ranked(sign("+"), 64), true, false)
	checkBoth(t, ranked(ranked(sign("]"), 0), 64), false, false)
	checkBoth(t, ranked(ranked(sign("]"), 64), 0), false, false)
}

// TestTotalOthers: names, definitions and what the table does not name, be it harmless.
func TestTotalOthers(t *testing.T) {
	for _, s := range []string{"Mean", "{{)m y }}", "{{)d x }}", "{{)d }}", "{{)m }}", "]/", `]\`, `]\.`, "]@]", "]&]", "]&.]", "]&.:]", "] .. ]", "]^:]", "2&]", "]&2", "]@.[", "(]`])@.[", "]^:a", `a"_`} {
		v := read(t, s)
		checkBoth(t, v, false, false)
		checkBoth(t, of(api.VObv, v, sign("]")), false, false)
		checkBoth(t, of(api.VAdverse, v, v), false, false)
		checkBoth(t, of(api.VAdverse, v, sign("]")), true, true)
	}
}

// TestTotalWithin: rules within one another.
func TestTotalWithin(t *testing.T) {
	for _, c := range []struct {
		s           string
		asMon, asDy bool
	}{
		{"(# , $)", false, false}, {"([ -: ])", true, true}, {"(# i. $)", true, false}, {"(, -: ,)", true, false}, {"(] e. [)~", true, true},
		{"#@:$", true, false}, {"#@:]", true, true}, {"-:&:#", false, true}, {"#&:-:", false, false}, {"(-: #)", true, true}, {"(# -:)", false, false},
		{"([: # ,)", true, false}, {"([: # ])", true, true}, {"([: - ])", false, false}, {"# : -:", true, true}, {"-: : #", false, false}, {"+ : +", true, false},
		{"-:~", true, true}, {"#~", false, false}, {"-:~~", true, true}, {"]^:3", true, true}, {"-^:3", false, false}, {"-^:0", true, true}, {`-:"_`, false, true}, {`#"_`, true, false},
		{"% :: (% :: ])", true, true}, {"(% :: %) :: %", false, false}, {`5"_ :. %`, true, true}, {`(5"_ -: a"_)`, false, false}, {`(5"_ -: 6"_)`, true, true}, {"(% :: [ -: ] : %)", true, false},
	} {
		checkBoth(t, read(t, c.s), c.asMon, c.asDy)
	}
}

// TestTotalDeep: as deep as a verb may be, as many nodes, and lists that stand at many places.
func TestTotalDeep(t *testing.T) {
	checkBoth(t, nested(api.VSwap, 256, sign("]")), true, true)
	checkBoth(t, nested(api.VSwap, 256, sign("#")), false, false)
	checkBoth(t, nested(api.VSwap, 257, sign("]")), false, false)
	checkBoth(t, mostNodes(), true, true)
	checkBoth(t, of(api.VSwap, mostNodes()), false, false)
	for _, kind := range []int{api.VAt, api.VApp, api.VCap, api.VHook, api.VAdverse, api.VObv, api.VBoth} {
		checkBoth(t, folded(kind, 11, sign("]")), true, true)
		checkBoth(t, folded(kind, 11, sign("%")), false, false)
	}
	for _, kind := range []int{api.VAt, api.VFork, api.VAdverse} {
		deep, bad := sign("]"), sign("%")
		for range 255 {
			deep, bad = of(kind, deep, sign("["), sign("]")), of(kind, bad, sign("["), sign("]"))
			if kind != api.VFork {
				deep.Kids, bad.Kids = deep.Kids[:2], bad.Kids[:2]
			}
		}
		checkBoth(t, deep, true, true)
		checkBoth(t, bad, kind == api.VAdverse, kind == api.VAdverse)
	}
	// One list of kids at many places, with an operand that is total in one valence alone.
	pair := []api.Term{sign("-:"), sign("#")}
	checkBoth(t, of(api.VHook, of(api.VHook, pair...), of(api.VHook, pair...)), true, true)
	checkBoth(t, of(api.VAt, of(api.VBoth, pair...), of(api.VHook, pair...)), false, false)
	checkBoth(t, of(api.VAdverse, of(api.VBoth, pair...), of(api.VAdverse, pair...)), true, true)
}
