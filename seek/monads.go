package seek

import (
	"abacus/api"
	"abacus/arr"
)

func nub(y api.Array) (api.Array, api.Errno) {
	return chosen(y, newOnes(finderOf(y).firsts())), api.OK
}

// newOnes tells the places of those items that are not the same as one ahead of them.
func newOnes(firsts []int) []int {
	var out []int
	for i, first := range firsts {
		if i == first {
			out = append(out, i)
		}
	}
	return out
}

func isFirst(y api.Array) (api.Array, api.Errno) {
	firsts := finderOf(y).firsts()
	out := make([]int64, len(firsts))
	for i, first := range firsts {
		out[i] = truth(i == first)
	}
	return api.Array{Shape: []int{len(out)}, Atoms: out}, api.OK
}

func classify(y api.Array) (api.Array, api.Errno) {
	firsts := finderOf(y).firsts()
	classes := newOnes(firsts)
	out, e := arr.Fill([]int{len(classes), len(firsts)}, 0)
	if e != api.OK {
		return api.Array{}, e
	}
	for i, class := range classes {
		for j, first := range firsts {
			out.Atoms[i*len(firsts)+j] = truth(class == first)
		}
	}
	return out, api.OK
}

func gradeUp(y api.Array) (api.Array, api.Errno) { return numbers(rising(itemsOf(y))), api.OK }

func gradeDown(y api.Array) (api.Array, api.Errno) { return numbers(falling(itemsOf(y))), api.OK }

func numbers(places []int) api.Array {
	out := make([]int64, len(places))
	for i, place := range places {
		out[i] = int64(place)
	}
	return api.Array{Shape: []int{len(out)}, Atoms: out}
}

func truth(so bool) int64 {
	if so {
		return 1
	}
	return 0
}
