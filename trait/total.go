package trait

import "abacus/api"

// The valences. Each is a bit of its own, so that their sum says both.
const (
	monad = 1
	dyad  = 2
)

// totalPrims tells by spelling in which valences a primitive never fails; those that are not in it can fail in both.
func totalPrims() map[string]int {
	return map[string]int{
		"+":   monad,
		"*":   monad,
		"<.":  monad,
		">.":  monad,
		"#":   monad,
		"$":   monad,
		",":   monad,
		",.":  monad,
		"{.":  monad,
		"{:":  monad,
		"}.":  monad,
		"}:":  monad,
		"|.":  monad,
		"|:":  monad,
		"~.":  monad,
		"~:":  monad,
		"/:":  monad,
		"\\:": monad,
		"[":   monad | dyad,
		"]":   monad | dyad,
		"-:":  dyad,
		"i.":  dyad,
		"e.":  dyad,
		"-.":  dyad,
	}
}

// A teller tells which verbs never fail. It holds the primitives' table, which so is made once for a whole verb.
type teller struct {
	prims map[string]int
}

// total tells whether a verb that may be never fails in a valence. It goes over each node once at most.
func (w teller) total(t api.Term, valence int) bool {
	switch t.Kind {
	case api.VPrim:
		return w.prims[t.Text]&valence != 0
	case api.VConst:
		return t.Kids[0].Kind == api.KNum
	case api.VSwap:
		return w.total(t.Kids[0], dyad)
	case api.VAt, api.VCap:
		return w.behind(t, valence)
	case api.VApp:
		return w.total(t.Kids[1], monad) && w.total(t.Kids[0], valence)
	case api.VHook:
		return w.total(t.Kids[1], monad) && w.total(t.Kids[0], dyad)
	case api.VFork:
		return w.total(t.Kids[0], valence) && w.total(t.Kids[2], valence) && w.total(t.Kids[1], dyad)
	case api.VRank:
		return whole(t.Num.Atoms, valence) && w.total(t.Kids[0], valence)
	case api.VPow:
		return w.power(t, valence)
	case api.VAdverse:
		return w.total(t.Kids[0], valence) || w.total(t.Kids[1], valence)
	case api.VObv:
		return w.total(t.Kids[0], valence)
	case api.VBoth:
		return w.total(t.Kids[valence-1], valence)
	}
	return false
}

// behind is of verbs whose second operand is applied to all, and the first one to what that gave.
func (w teller) behind(t api.Term, valence int) bool {
	return w.total(t.Kids[1], valence) && w.total(t.Kids[0], monad)
}

// whole tells whether ranks leave what a verb is applied to in one piece.
func whole(ranks []int64, valence int) bool {
	if valence == monad {
		return toldRank(ranks, monadic) == api.Inf
	}
	return toldRank(ranks, left) == api.Inf && toldRank(ranks, right) == api.Inf
}

// power tells of a verb that is applied so many times: no time, and it gives back what it got.
func (w teller) power(t api.Term, valence int) bool {
	count := t.Kids[1]
	if count.Kind != api.KNum || len(count.Num.Shape) > 0 || count.Num.Atoms[0] < 0 {
		return false
	}
	return count.Num.Atoms[0] == 0 || w.total(t.Kids[0], valence)
}
