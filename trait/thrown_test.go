package trait

import (
	"testing"

	"abacus/api"
)

// dice are numbers that look thrown, the same ones each time.
type dice uint64

func (d *dice) throw(n int) int {
	*d = *d*6364136223846793005 + 1442695040888963407
	return int(uint64(*d) >> 33 % uint64(n))
}

// operand throws a number, a list or a name, the number 0 often.
func (d *dice) operand() api.Term {
	return []api.Term{num(0), num(0), num(1), num(2), num(-1), num(0, 0), num(3, 1), noun("a"), num(api.Min), num(7)}[d.throw(10)]
}

// leaf throws a verb without operands, one that is total more often than not.
func (d *dice) leaf() api.Term {
	switch d.throw(6) {
	case 0:
		rows := catalogue()
		return sign(rows[d.throw(len(rows))].spelling)
	case 1:
		return []api.Term{verb("A"), def(1, say(mon(sign("]"), noun("y")))), def(2), of(api.VConst, noun("a")), of(api.VConst, num(2))}[d.throw(5)]
	}
	return sign([]string{"]", "[", "]", "#", "$", "-:", "i.", "e.", "-.", ",", "{.", "|:", "~.", "/:"}[d.throw(14)])
}

// rank throws a rank, infinite more often than not.
func (d *dice) rank() int64 {
	return []int64{64, 64, 64, 64, 64, 64, 0, 1, -1, 8}[d.throw(10)]
}

// verb throws a verb that may be and is at most so deep, if that is 2 or more. Kinds that can be total come more often.
func (d *dice) verb(depth int) api.Term {
	if depth <= 2 || d.throw(7) == 0 {
		return d.leaf()
	}
	u := func() api.Term { return d.verb(depth - 1) }
	switch d.throw(10) {
	case 0:
		return of(api.VInsert+d.throw(3), u())
	case 1:
		return of(api.VAtop+d.throw(11), u(), u())
	case 2:
		return []api.Term{of(api.VBondL, d.operand(), u()), of(api.VBondR, u(), d.operand()), of(api.VAgenda, u(), u(), u())}[d.throw(3)]
	case 3:
		return of(api.VPow, u(), d.operand())
	case 4:
		ranks := []int64{d.rank(), d.rank(), d.rank()}
		return ranked(u(), ranks[d.throw(3):]...)
	case 5:
		return of(api.VSwap, u())
	case 6, 7:
		return of([]int{api.VAt, api.VApp, api.VHook, api.VCap, api.VAdverse, api.VObv, api.VBoth}[d.throw(7)], u(), u())
	}
	return of(api.VFork, u(), u(), u())
}

// wantedRanks tells a verb's ranks as doc/00-meaning.md does, all three of each operand at a time.
func wantedRanks(t api.Term) [3]int {
	of := func(kid int) [3]int { return wantedRanks(t.Kids[kid]) }
	rule := map[int]func() [3]int{
		api.VPrim: func() [3]int {
			for _, r := range catalogue() {
				if r.spelling == t.Text {
					return r.ranks
				}
			}
			return [3]int{-99, -99, -99}
		},
		api.VAtop:  func() [3]int { return of(1) },
		api.VComp:  func() [3]int { m := of(1)[0]; return [3]int{m, m, m} },
		api.VUnder: func() [3]int { m := of(1)[0]; return [3]int{m, m, m} },
		api.VBondL: func() [3]int { return [3]int{of(1)[2], 64, 64} },
		api.VBondR: func() [3]int { return [3]int{of(0)[1], 64, 64} },
		api.VRank: func() [3]int {
			a := t.Num.Atoms
			at := [][3]int{1: {0, 0, 0}, 2: {1, 0, 1}, 3: {0, 1, 2}}[len(a)]
			return [3]int{int(a[at[0]]), int(a[at[1]]), int(a[at[2]])}
		},
		api.VSwap: func() [3]int { return [3]int{64, of(0)[2], of(0)[1]} },
		api.VObv:  func() [3]int { return of(0) },
		api.VBoth: func() [3]int { return [3]int{of(0)[0], of(1)[1], of(1)[2]} },
	}[t.Kind]
	if rule == nil {
		return [3]int{64, 64, 64}
	}
	return rule()
}

// wantedTotal tells whether a verb is total as the table of P16.2 does, from the leaves up.
func wantedTotal(t api.Term, valence int) bool { return totalIn(t)[valence] }

// totalIn tells of both valences, at their numbers.
func totalIn(t api.Term) (out [3]bool) {
	var kids [][3]bool
	for _, kid := range t.Kids {
		kids = append(kids, totalIn(kid))
	}
	for v := 1; v <= 2; v++ {
		out[v] = tableSays(t, kids, v)
	}
	return out
}

// tableSays is the row of a kind, told what its operands are in both valences.
func tableSays(t api.Term, kids [][3]bool, v int) bool {
	switch t.Kind {
	case api.VPrim:
		for _, r := range catalogue() {
			if r.spelling == t.Text {
				return []bool{1: r.always, 2: r.pairs}[v]
			}
		}
	case api.VConst:
		return t.Kids[0].Kind == api.KNum
	case api.VSwap:
		return kids[0][2]
	case api.VAt:
		return kids[1][v] && kids[0][1]
	case api.VApp:
		return kids[1][1] && kids[0][v]
	case api.VHook:
		return kids[1][1] && kids[0][2]
	case api.VFork:
		return kids[0][v] && kids[2][v] && kids[1][2]
	case api.VCap:
		return kids[1][v] && kids[0][1]
	case api.VRank:
		r := wantedRanks(t)
		return kids[0][v] && (v == 1 && r[0] == 64 || v == 2 && r[1] == 64 && r[2] == 64)
	case api.VPow:
		n := t.Kids[1]
		if n.Kind == api.KNum && len(n.Num.Shape) == 0 {
			return n.Num.Atoms[0] == 0 || n.Num.Atoms[0] > 0 && kids[0][v]
		}
	case api.VAdverse:
		return kids[0][v] || kids[1][v]
	case api.VObv:
		return kids[0][v]
	case api.VBoth:
		return kids[v-1][v]
	}
	return false
}

// TestThrown: thrown verbs against rules written another way.
func TestThrown(t *testing.T) {
	var d dice
	count := [3]int{}
	for range 40000 {
		v := d.verb(2 + d.throw(8))
		want := totalIn(v)
		checkRanks(t, v, wantedRanks(v))
		checkTotal(t, v, 1, want[1])
		checkTotal(t, v, 2, want[2])
		checkTotal(t, v, []int{0, 3, -1}[d.throw(3)], false)
		for valence, told := range want {
			if told && len(v.Kids) > 0 {
				count[valence]++
			}
		}
	}
	if count[1] < 2000 || count[2] < 2000 {
		t.Errorf("the test itself: %v verbs are total", count)
	}
}
