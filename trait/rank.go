package trait

import (
	"abacus/api"
	"abacus/prim"
)

// The places of a verb's ranks.
const (
	monadic = 0
	left    = 1
	right   = 2
)

// rank tells one rank of a verb that may be. It asks at most one rank of one operand, so that it goes down a single way, however the verb branches.
func rank(t api.Term, place int) int {
	switch t.Kind {
	case api.VPrim:
		return primRank(t.Text, place)
	case api.VAtop:
		return rank(t.Kids[1], place)
	case api.VComp, api.VUnder:
		return rank(t.Kids[1], monadic)
	case api.VBondL:
		return bondRank(t.Kids[1], right, place)
	case api.VBondR:
		return bondRank(t.Kids[0], left, place)
	case api.VRank:
		return toldRank(t.Num.Atoms, place)
	case api.VSwap:
		return swapRank(t.Kids[0], place)
	case api.VObv:
		return rank(t.Kids[0], place)
	case api.VBoth:
		if place == monadic {
			return rank(t.Kids[0], place)
		}
		return rank(t.Kids[1], place)
	}
	return api.Inf
}

func primRank(spelling string, place int) int {
	op, _ := prim.Of(spelling)
	info, _ := prim.Info(op)
	return info.Ranks[place]
}

// bondRank tells a rank of a bond: as a monad it meets its verb's free side alone.
func bondRank(v api.Term, free, place int) int {
	if place == monadic {
		return rank(v, free)
	}
	return api.Inf
}

func swapRank(u api.Term, place int) int {
	switch place {
	case left:
		return rank(u, right)
	case right:
		return rank(u, left)
	}
	return api.Inf
}

// toldRank picks a rank out of a list of one, two or three; of two the right one is the monadic one, too.
func toldRank(list []int64, place int) int {
	switch {
	case len(list) == 3:
		return int(list[place])
	case len(list) == 2 && place == left:
		return int(list[0])
	}
	return int(list[len(list)-1])
}
