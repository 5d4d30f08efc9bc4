package trait

import (
	"fmt"
	"testing"

	"abacus/api"
	"abacus/arr"
	"abacus/prim"
)

// filled is an array of that shape with the atoms over and over.
func filled(shape []int, atoms ...int64) api.Array {
	n := 1
	for _, length := range shape {
		n *= length
	}
	a := api.Array{Shape: append([]int{}, shape...)}
	for i := range n {
		a.Atoms = append(a.Atoms, atoms[i%len(atoms)])
	}
	return a
}

// shapes are all of ranks 0 to 3 with short lengths, and such as lie at the limits of rank and atoms.
func shapes() [][]int {
	out := [][]int{{}}
	for from := 0; len(out[from]) < 3; from++ {
		for length := range 4 {
			out = append(out, append(append([]int{}, out[from]...), length))
		}
	}
	return append(out,
		[]int{1, 1, 1, 1, 1, 1, 1, 1}, []int{2, 1, 2, 1, 2, 1, 2, 1}, []int{0, 0, 0, 0, 0, 0, 0, 0}, []int{0, 1, 2, 3, 4, 5, 6, 5}, []int{5, 4, 3, 2, 1, 2, 2, 0}, []int{2, 2, 2, 2, 2, 2, 2, 2}, []int{1, 1, 1, 1, 1, 1, 1, 4096}, []int{4096, 1, 1, 1, 1, 1, 1, 1},
		[]int{4096}, []int{4095}, []int{4096, 0}, []int{0, 4096}, []int{64, 64}, []int{0, 64, 64}, []int{64, 0, 64}, []int{16, 16, 16}, []int{1, 4096}, []int{4096, 1}, []int{2, 2048}, []int{4096, 0, 0, 0, 0, 0, 0, 0})
}

// contents are atoms to fill arrays with: few ones, many ones, and the ends of 64 bits.
func contents() [][]int64 {
	return [][]int64{{0}, {1, 0}, {api.Min, api.Max, -1, 0, 1}, {3, 1, 4, 1, -5, 9, 2, 6, 5}, {api.Min}, {api.Max}, {4097, -4097, 1 << 40}}
}

// arrays are some of every shape, those at the limits too.
func arrays() []api.Array {
	var out []api.Array
	for _, shape := range shapes() {
		for _, atoms := range contents() {
			out = append(out, filled(shape, atoms...))
		}
	}
	return out
}

// checkGiven asks that what a total verb gave is an array that may be.
func checkGiven(t *testing.T, what string, a api.Array, e api.Errno) {
	t.Helper()
	if e != api.OK {
		t.Fatalf("P16.3: %s is told total, and gives %v", what, e)
	}
	if arr.May(a) != api.OK {
		t.Fatalf("P16.3: %s gives an array that may not be", what)
	}
}

// TestPrimitivesNeverFail: what is told total of a primitive does all arrays.
func TestPrimitivesNeverFail(t *testing.T) {
	all := arrays()
	for _, r := range catalogue() {
		op, _ := prim.Of(r.spelling)
		if Total(sign(r.spelling), 1) {
			for _, y := range all {
				a, e := prim.Monad(op, y)
				checkGiven(t, fmt.Sprintf("%s %v", r.spelling, y.Shape), a, e)
			}
		}
		if !Total(sign(r.spelling), 2) {
			continue
		}
		for _, xs := range shapes() {
			for j, ys := range shapes() {
				x, y := filled(xs, contents()[j%7]...), filled(ys, contents()[(j+3)%7]...)
				a, e := prim.Dyad(op, x, y)
				checkGiven(t, fmt.Sprintf("%v %s %v", xs, r.spelling, ys), a, e)
			}
		}
	}
}

// applied is what a verb gives in a workspace without names, as doc/00-meaning.md has it, without fuel, room and depth; kinds that are not done here fail.
func applied(t api.Term, valence int, x, y api.Array) (api.Array, api.Errno) {
	u := func(kid, valence int, x, y api.Array) (api.Array, api.Errno) {
		return applied(t.Kids[kid], valence, x, y)
	}
	switch t.Kind {
	case api.VPrim:
		op, _ := prim.Of(t.Text)
		if valence == 1 {
			return prim.Monad(op, y)
		}
		return prim.Dyad(op, x, y)
	case api.VConst:
		if t.Kids[0].Kind == api.KNum {
			return t.Kids[0].Num, api.OK
		}
		return api.Array{}, api.ErrValue
	case api.VSwap:
		if valence == 1 {
			return u(0, 2, y, y)
		}
		return u(0, 2, y, x)
	case api.VObv:
		return u(0, valence, x, y)
	case api.VBoth:
		return u(valence-1, valence, x, y)
	case api.VAdverse:
		if a, e := u(0, valence, x, y); e == api.OK {
			return a, e
		}
		return u(1, valence, x, y)
	case api.VRank:
		r := wantedRanks(t)
		if valence == 1 && r[0] == 64 || valence == 2 && r[1] == 64 && r[2] == 64 {
			return u(0, valence, x, y)
		}
	case api.VPow:
		return poweredBy(t, valence, x, y)
	case api.VAt, api.VCap, api.VApp, api.VHook, api.VFork:
		return trained(t, valence, x, y)
	}
	return api.Array{}, api.ErrDomain
}

// poweredBy applies a VPow of a small scalar from 0 on.
func poweredBy(t api.Term, valence int, x, y api.Array) (api.Array, api.Errno) {
	n := t.Kids[1]
	if n.Kind != api.KNum || len(n.Num.Shape) > 0 || n.Num.Atoms[0] < 0 {
		return api.Array{}, api.ErrObverse
	}
	e := api.OK
	for range n.Num.Atoms[0] {
		if y, e = applied(t.Kids[0], valence, x, y); e != api.OK {
			return api.Array{}, e
		}
	}
	return y, api.OK
}

// trained applies a kind that applies one verb to what others gave. Each step is a kid, in a valence, of two of the arrays that there are: x, y, and what the steps ahead gave.
func trained(t api.Term, valence int, x, y api.Array) (api.Array, api.Errno) {
	type step struct{ kid, valence, left, right int }
	have := []api.Array{x, y}
	steps := map[int][]step{
		api.VAt:   {{1, valence, 0, 1}, {0, 1, 2, 2}},
		api.VCap:  {{1, valence, 0, 1}, {0, 1, 2, 2}},
		api.VApp:  {{1, 1, 1, 1}, {1, 1, 0, 0}, {0, valence, 3, 2}},
		api.VHook: {{1, 1, 1, 1}, {0, 2, 2 - valence, 2}},
		api.VFork: {{2, valence, 0, 1}, {0, valence, 0, 1}, {1, 2, 3, 2}},
	}[t.Kind]
	if t.Kind == api.VApp && valence == 1 {
		steps = []step{{1, 1, 1, 1}, {0, 1, 2, 2}}
	}
	for _, s := range steps {
		a, e := applied(t.Kids[s.kid], s.valence, have[s.left], have[s.right])
		if e != api.OK {
			return api.Array{}, e
		}
		have = append(have, a)
	}
	return have[len(have)-1], api.OK
}

// TestNeverFails: thrown verbs that are told total do thrown arrays.
func TestNeverFails(t *testing.T) {
	var d dice
	var small []api.Array
	for _, a := range arrays() {
		if len(a.Atoms) <= 256 {
			small = append(small, a)
		}
	}
	count := [3]int{}
	for range 30000 {
		v := d.verb(2 + d.throw(6))
		for valence := 1; valence <= 2; valence++ {
			if !Total(v, valence) || len(v.Kids) == 0 {
				continue
			}
			count[valence]++
			for range 3 {
				x, y := small[d.throw(len(small))], small[d.throw(len(small))]
				a, e := applied(v, valence, x, y)
				checkGiven(t, brief(told(v)), a, e)
			}
		}
	}
	if count[1] < 1000 || count[2] < 1000 {
		t.Errorf("the test itself: %v verbs are total", count)
	}
}
